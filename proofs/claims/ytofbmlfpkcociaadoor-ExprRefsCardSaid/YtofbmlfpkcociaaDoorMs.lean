/- expr.measure by its contract. Condition: the formula reads as a tree, which is not too great. -/
import Derived.Test.YtofbmlfpkcociaaDoorGs
set_option linter.unusedVariables false
set_option linter.unusedSimpArgs false
namespace Go.Proofs.YtofbmlfpkcociaaDoor
open Go.RowKit

def MsJ (w : World) (B base gs : Nat) (en : Int) (D C : Nat) (g l : Nat) (a : Act) (W : World) : Prop :=
  l = 0 ∧ a.defers = [] ∧ a.tmps.size = 34 ∧ a.tmps.getD 1 undef = .int .i64 en ∧ a.tmps.getD 8 undef = .pointer (some ⟨gs, 0, none⟩) ∧
    ∃ (d c : Nat) (v : Value) (K : List (List Tr)), a.tmps.getD 6 undef = .int .i64 d ∧ a.tmps.getD 7 undef = .int .i64 c ∧ Way w W B base gs v K ∧ szR K.reverse < g ∧ max d (dmR K.reverse) = D ∧ c + szR K.reverse = C
def MsF (w : World) (en : Int) (D C : Nat) (a : Act) (W : World) : Prop :=
  a.defers = [] ∧ ∃ d c : Nat, a.tmps[4]? = some (.int .i64 d) ∧ a.tmps[5]? = some (.int .i64 c) ∧ (d = D ∧ c = C ∨ en ≤ d ∧ d ≤ D) ∧ Below w.heap.size w W

set_option maxRecDepth 20000 in
set_option maxHeartbeats 2000000 in
theorem measure_pass {w : World} {B base gs g : Nat} {en : Int} {D C : Nat} (hC : C ≤ 100000) (hD : D ≤ 100000) {Q : Exit → Act → World → Prop} (hQ : ∀ a W, MsF w en D C a W → Q .ret a W) {r0 body rest : Code}
    (hbody : Tryd.f22.body = some (.seq r0 (.scope body))) (hr : findLabel body 0 = some (.seq .skip rest)) {a : Act} {W : World} (hJ : MsJ w B base gs en D C g 0 a W) :
    rest.wp Tryd.prog (Exit.jumps (fun l' a' W' => ∃ g', g' < g ∧ MsJ w B base gs en D C g' l' a' W') Q) a W := by
  unfold Tryd.f22 at hbody
  simp only [Option.some.injEq] at hbody
  have hb2 := Code.scope.inj (Code.seq.inj hbody).2
  clear hbody
  subst hb2
  injection hr with hr
  injection hr with _ hr
  subst hr
  obtain ⟨-, hd, hsz, e1, e8, d, c, v, K, e6, e7, hW, hg, hmx, hct⟩ := hJ
  rw [act_lit 34 a hd hsz]
  simp only [List.range, List.range.loop, List.map, e1, e8, e6, e7]
  clear hd hsz e1 e8 e6 e7
  generalize a.tmps.getD 0 undef = y0
  generalize a.tmps.getD 2 undef = y2
  generalize a.tmps.getD 3 undef = y3
  generalize a.tmps.getD 4 undef = y4
  generalize a.tmps.getD 5 undef = y5
  generalize a.tmps.getD 9 undef = y9
  generalize a.tmps.getD 10 undef = y10
  generalize a.tmps.getD 11 undef = y11
  generalize a.tmps.getD 12 undef = y12
  generalize a.tmps.getD 13 undef = y13
  generalize a.tmps.getD 14 undef = y14
  generalize a.tmps.getD 15 undef = y15
  generalize a.tmps.getD 16 undef = y16
  generalize a.tmps.getD 17 undef = y17
  generalize a.tmps.getD 18 undef = y18
  generalize a.tmps.getD 19 undef = y19
  generalize a.tmps.getD 20 undef = y20
  generalize a.tmps.getD 21 undef = y21
  generalize a.tmps.getD 22 undef = y22
  generalize a.tmps.getD 23 undef = y23
  generalize a.tmps.getD 24 undef = y24
  generalize a.tmps.getD 25 undef = y25
  generalize a.tmps.getD 26 undef = y26
  generalize a.tmps.getD 27 undef = y27
  generalize a.tmps.getD 28 undef = y28
  generalize a.tmps.getD 29 undef = y29
  generalize a.tmps.getD 30 undef = y30
  generalize a.tmps.getD 31 undef = y31
  generalize a.tmps.getD 32 undef = y32
  generalize a.tmps.getD 33 undef = y33
  have HM := Lib.hid (And.intro hmx (And.intro hct hg))
  have HC := Lib.hid (And.intro hC hD)
  have HQ := Lib.hid hQ
  clear hmx hct hg hQ
  repeat' (first | go_values | go_skip | go_guarded | go_step | go_upon)
  refine (next_any hW.stk hW.le.2.1 hW.le.2.2.1).mono ?_
  rintro e W1 ⟨hK1, v1, hv1, hcase⟩
  have hdb : d ≤ 100000 := by have := HM.out.1; have := HC.out.2; omega
  have hcb : c ≤ 100000 := by have := HM.out.2.1; have := HC.out.1; omega
  rcases hcase with ⟨hpop, rfl, hS1⟩ | ⟨p, ks, R, A, c1, hpop, rfl, hc1, hkr, hS1⟩
  · have hW1 := hW.step hK1 hS1
    have hbz : Bk (W1.alloc (.cells #[.int .i64 0, .int .i64 0, .int .i64 0, .int .i64 0, .string ⟨#[]⟩, .bool false, .int .i64 0, .int .i64 0, .int .i64 0, .bool false, .bool false, .int .i64 0, .int .i64 0, .bool false, .bool false, .int .i64 0, .int .i64 0, .slice none 0 0] 43)) W1.heap.size 43 (ec zp (.slice none 0 0)).toArray := Bk.new _ _ _
    clear hK1 hS1 hW
    dsimp only
    repeat' (first | ((with_reducible show Oper.wp _ _ _ _ _ _); apply st_z; exact rfl; exact rfl; exact rfl; assumption; exact rfl; (intro W2 hk2 hK2 hz2; go_simp)) | go_values | go_skip | go_guarded | go_step | go_upon)
    simp only [Exit.jumps]
    refine HQ.out _ _ ⟨rfl, d, c, rfl, rfl, .inl ?_, ?_⟩
    · obtain ⟨h1, h2, h3⟩ := HM.out
      obtain ⟨p1, p2, -, -⟩ := pop_none hpop
      omega
    · exact hW1.bel.trans ((made_box hK2).mono hW1.bel.size)
  · have hW1 := hW.step hK1 hS1
    have hbz : Bk (W1.alloc (.cells #[.int .i64 0, .int .i64 0, .int .i64 0, .int .i64 0, .string ⟨#[]⟩, .bool false, .int .i64 0, .int .i64 0, .int .i64 0, .bool false, .bool false, .int .i64 0, .int .i64 0, .bool false, .bool false, .int .i64 0, .int .i64 0, .slice none 0 0] 43)) W1.heap.size 43 (ec zp (.slice none 0 0)).toArray := Bk.new _ _ _
    clear hK1 hS1 hW
    dsimp only
    by_cases hen : en ≤ (d : Int)
    · repeat' (first | ((with_reducible show Oper.wp _ _ _ _ _ _); apply st_p; exact rfl; exact rfl; exact rfl; assumption; exact rfl; (intro W2 hk2 hK2 hz2; go_simp)) | go_values | go_skip | go_guarded | go_step | go_upon)
      simp only [Exit.jumps]
      refine HQ.out _ _ ⟨rfl, d, c, rfl, rfl, .inr ⟨hen, ?_⟩, ?_⟩
      · have := HM.out.1
        omega
      · exact hW1.bel.trans ((made_box hK2).mono hW1.bel.size)
    · have hkr1 := hkr
      repeat' (first | ((with_reducible show Oper.wp _ _ _ _ _ _); apply stop_s; exact rfl) | go_values | go_skip | go_guarded | go_step | go_upon)
      refine Lib.hid ?_
      apply st_p
      · exact rfl
      · exact rfl
      · exact rfl
      · assumption
      · exact rfl
      intro W2 hk2 hK2 hz2
      have hb12 := made_box hK2
      have hW2 := hW1.below hb12
      have hkr2 := hkr1.below hb12 (by have := hW1.le; omega)
      obtain ⟨S, cS, rfl, hc0⟩ := hW2.form
      clear hbz hkr1 hkr hK2 hz2 hW1 hb12
      go_simp
      repeat' (first | go_values | go_skip | go_guarded | go_step | go_upon)
      refine depth_s.mono ?_
      rintro e w3 ⟨rfl, rfl⟩
      dsimp only
      repeat' (first | ((with_reducible show Oper.wp _ _ _ _ _ _); apply ld_p; exact rfl; exact rfl; assumption; go_simp) | go_values | go_skip | go_guarded | go_step | go_upon)
      obtain ⟨q1, q2, -, -, q5⟩ := pop_some hpop
      obtain ⟨h1, h2, h3⟩ := HM.out
      have hRl : R.length ≤ 100000 := by have := HC.out.2; omega
      refine (enter_any hW2.stk hW2.le.2.1 hW2.le.2.2.1 hW2.le.2.2.2 hc1 hkr2 (by rw [List.length_reverse]; omega)).mono ?_
      rintro e W3 ⟨rfl, hK3, v3, hl3, hS3⟩
      have hW3 := hW2.step hK3 hS3
      clear hK3 hS3 hW2 hkr2 hk2 hc0
      dsimp only
      repeat' (first | go_values | go_skip | go_guarded | go_step | go_upon)
      go_step3
      refine ⟨szR K.reverse, h3, rfl, rfl, rfl, rfl, rfl, max d R.length, c + 1, v3, R.reverse ++ [ks], ?_, by simp [Array.getD], hW3, ?_, ?_, ?_⟩
      · show Value.int .i64 (if d < R.length then (R.length : Int) else (d : Int)) = _
        congr 1
        split <;> omega
      all_goals rw [List.reverse_append, List.reverse_reverse, List.reverse_singleton, List.singleton_append]
      · omega
      · omega
      · omega

/-- A tree that came in. -/
def AtT (w : World) (p : Pay) (ks : List Tr) (A : Option Addr) (c : Nat) : Prop := ks.length ≤ c ∧ RowF treeF w (· < w.heap.size) A ks.length ks
theorem AtT.below {w w' : World} {p : Pay} {ks : List Tr} {A : Option Addr} {c : Nat} (h : AtT w p ks A c) (hb : Below w.heap.size w w') : AtT w' p ks A c := ⟨h.1, (h.2.below hb (Nat.le_refl _)).mono hb.size⟩

/-- A stack just begun, in its box. -/
theorem way_start {w w1 W : World} {v : Value} {xs : List Value} {t : Tr} (hb1 : Below w.heap.size w w1) (hb : Below w1.heap.size w1 W) (hs : W.heap.size = w1.heap.size + 3) (ho : W.ownsRow (w1.heap.size + 2) 41 1 v 1 xs) (hh : Hdr W (w1.heap.size + 2) xs [[t]]) :
    Way w (W.alloc (.cells #[v] 64)) (w1.heap.size + 2) (w1.heap.size + 2) (w1.heap.size + 3) v [[t]] := by
  have hbW := bel0 W (.cells #[v] 64)
  refine ⟨hb1.trans ((hb.mono hb1.size).trans (hbW.mono (by have := hb1.size; omega))), ⟨?_, xs, ?_, hh.below hbW (by omega)⟩, by have := hb1.size; omega, Nat.le_refl _, by omega, by simp; omega⟩
  · rw [← hs]
    exact Bk.new W 64 #[v]
  · exact (Keep.of_below (S := fun i => W.heap.size ≤ i) hbW fun i _ h => h).own ho fun i hi hh => by have := (ho.lt i hi).2; omega

set_option maxRecDepth 20000 in
set_option maxHeartbeats 2000000 in
theorem measure_any {w : World} {p : Pay} {ks : List Tr} {A : Option Addr} {c : Nat} (h : AtT w p ks A c) (en : Int) (hC : cntT (.mk p ks) ≤ 100000) :
    Calls Tryd.prog 22 #[.agg (ec p (.slice A ks.length c)).toArray, .int .i64 en] w fun e W =>
      ∃ d n : Nat, e = .returned (.tuple #[.int .i64 d, .int .i64 n]) ∧ (d = dpT (.mk p ks) ∧ n = cntT (.mk p ks) ∨ en ≤ d ∧ d ≤ dpT (.mk p ks)) ∧ Below w.heap.size w W := by
  have hD := Nat.le_trans (dp_cntT (.mk p ks)) hC
  obtain ⟨w1, hw1⟩ : ∃ w1, w1 = w.alloc (.cells (ec p (.slice A ks.length c)).toArray 43) := ⟨_, rfl⟩
  have hb1 : Below w.heap.size w w1 := by rw [hw1]; exact bel0 _ _
  have h1 := h.below hb1
  have hk1 : Bk w1 w.heap.size 43 (ec p (.slice A ks.length c)).toArray := by rw [hw1]; exact Bk.new _ _ _
  go_enter Tryd.func22, Tryd.ntmps22
  repeat' (first | go_values | go_skip | go_guarded | go_step | go_upon)
  rw [← hw1]
  clear hw1 h
  rename_i Q'
  have hQ : ∀ a W, MsF w en (dpT (.mk p ks)) (cntT (.mk p ks)) a W → Q' .ret a W := by
    rintro a W ⟨hd, d, n, h4, h5, h6, hb⟩
    refine bodyPost_ret (v := .tuple #[.int .i64 d, .int .i64 n]) ?_ hd ⟨d, n, rfl, h6, hb⟩
    simp [results, Tryd.results22, go_sem, h4, h5]
  clear_value Q'
  refine wp_scope_ghost (MsJ w (w1.heap.size + 2) (w1.heap.size + 2) (w1.heap.size + 3) en (dpT (.mk p ks)) (cntT (.mk p ks))) ?_ ?_
  · repeat' (first | ((with_reducible show Oper.wp _ _ _ _ _ _); apply ld_p; exact rfl; exact rfl; assumption; go_simp) | go_values | go_skip | go_guarded | go_step | go_upon)
    refine (start_any h1.1 h1.2).mono ?_
    rintro e W ⟨v, xs, rfl, hb, hsz, ho, hh⟩
    obtain ⟨S, c', rfl, -⟩ := own_form ho
    have HW := Lib.hid (way_start hb1 hb hsz ho hh)
    dsimp only
    repeat' (first | go_values | go_skip | go_guarded | go_step | go_upon)
    go_step3
    rename_i Kk hKk
    refine hKk _ _ (wp_mono (measure_pass (B := w1.heap.size + 2) (base := w1.heap.size + 2) (gs := w1.heap.size + 3) hC hD hQ (g := cntT (.mk p ks) + 1) rfl rfl ?_) ?_)
    · refine ⟨rfl, rfl, rfl, rfl, rfl, 0, 0, _, [[.mk p ks]], rfl, rfl, HW.out, ?_, ?_, ?_⟩
      · simp [szR, cntL]
      · simp [dmR, dpL]
      · simp [szR, cntL]
    · intro e a W hq
      cases e with
      | goto l =>
        obtain ⟨g', -, h⟩ := hq
        exact ⟨g', h⟩
      | _ => exact hq
  · intro g l a W hJ
    obtain rfl := hJ.1
    exact ⟨_, rfl, wp_seq (wp_skip (measure_pass hC hD hQ rfl rfl hJ))⟩
end Go.Proofs.YtofbmlfpkcociaaDoor
