/- expr.Refs by its contract. Condition: the formula reads as a tree, which is not too great. -/
import Derived.Test.YtofbmlfpkcociaaDoorMs
set_option linter.unusedVariables false
set_option linter.unusedSimpArgs false
namespace Go.Proofs.YtofbmlfpkcociaaDoor
open Go.RowKit

/-- A place or a Name, as it is handed out. -/
def lc (p : Pay) : List Value := ec p (.slice none 0 0)
theorem exprRow : ElemRow Tryd.prog 41 43 (.agg #[.int .i64 0, .int .i64 0, .int .i64 0, .int .i64 0, .string ⟨#[]⟩, .bool false, .int .i64 0, .int .i64 0, .int .i64 0, .bool false, .bool false, .int .i64 0, .int .i64 0, .bool false, .bool false, .int .i64 0, .int .i64 0, .slice none 0 0]) 18 152 := by
  obtain ⟨i, hi, h0, h1, h2⟩ := info_parts (P := Tryd.prog) (e := 43) (z := .agg #[.int .i64 0, .int .i64 0, .int .i64 0, .int .i64 0, .string ⟨#[]⟩, .bool false, .int .i64 0, .int .i64 0, .int .i64 0, .bool false, .bool false, .int .i64 0, .int .i64 0, .bool false, .bool false, .int .i64 0, .int .i64 0, .slice none 0 0]) (size := 18) (bytes := 152) (by kernel_rfl)
  exact ⟨Tryd.underlying41, ⟨i, hi, h0, h1, h2⟩, rfl, by omega⟩
theorem lc_one {p : Pay} : ∀ u ∈ lc p, u.oneCell' = true := ec_one p

def ReJ (w : World) (B base gs : Nat) (T : List Pay) (g l : Nat) (a : Act) (W : World) : Prop :=
  l = 0 ∧ a.defers = [] ∧ a.tmps.size = 31 ∧ a.tmps.getD 4 undef = .pointer (some ⟨gs, 0, none⟩) ∧
    ∃ (v vo : Value) (K : List (List Tr)) (L : List Pay), a.tmps.getD 3 undef = vo ∧ Way w W B base gs v K ∧ W.ownsRow base 43 18 vo L.length (L.flatMap lc) ∧ szR K.reverse < g ∧ T = L ++ rfR K.reverse ∧ T.length ≤ 100000 ∧ dmR K.reverse ≤ 100000
def ReF (w : World) (T : List Pay) (a : Act) (W : World) : Prop := a.defers = [] ∧ ∃ vo, a.tmps[2]? = some vo ∧ W.ownsRow w.heap.size 43 18 vo T.length (T.flatMap lc) ∧ Below w.heap.size w W

set_option maxRecDepth 20000 in
set_option maxHeartbeats 4000000 in
theorem refs_pass {w : World} {B base gs g : Nat} {T : List Pay} {Q : Exit → Act → World → Prop} (hQ : ∀ a W, ReF w T a W → Q .ret a W) {r0 body rest : Code}
    (hbody : Tryd.f12.body = some (.seq r0 (.scope body))) (hr : findLabel body 0 = some (.seq .skip rest)) {a : Act} {W : World} (hJ : ReJ w B base gs T g 0 a W) :
    rest.wp Tryd.prog (Exit.jumps (fun l' a' W' => ∃ g', g' < g ∧ ReJ w B base gs T g' l' a' W') Q) a W := by
  unfold Tryd.f12 at hbody
  simp only [Option.some.injEq] at hbody
  have hb2 := Code.scope.inj (Code.seq.inj hbody).2
  clear hbody
  subst hb2
  injection hr with hr
  injection hr with _ hr
  subst hr
  obtain ⟨-, hd, hsz, e4, v, vo, K, L, e3, hW, ho, hg, hT, hTl, hdm⟩ := hJ
  rw [act_lit 31 a hd hsz]
  simp only [List.range, List.range.loop, List.map, e4, e3]
  clear hd hsz e4 e3
  generalize a.tmps.getD 0 undef = y0
  generalize a.tmps.getD 1 undef = y1
  generalize a.tmps.getD 2 undef = y2
  generalize a.tmps.getD 5 undef = y5
  generalize a.tmps.getD 6 undef = y6
  generalize a.tmps.getD 7 undef = y7
  generalize a.tmps.getD 8 undef = y8
  generalize a.tmps.getD 9 undef = y9
  generalize a.tmps.getD 10 undef = y10
  generalize a.tmps.getD 11 undef = y11
  generalize a.tmps.getD 12 undef = y12
  generalize a.tmps.getD 13 undef = y13
  generalize a.tmps.getD 14 undef = y14
  generalize a.tmps.getD 15 undef = y15
  generalize a.tmps.getD 16 undef = y16
  generalize a.tmps.getD 17 undef = y17
  generalize a.tmps.getD 18 undef = y18
  generalize a.tmps.getD 19 undef = y19
  generalize a.tmps.getD 20 undef = y20
  generalize a.tmps.getD 21 undef = y21
  generalize a.tmps.getD 22 undef = y22
  generalize a.tmps.getD 23 undef = y23
  generalize a.tmps.getD 24 undef = y24
  generalize a.tmps.getD 25 undef = y25
  generalize a.tmps.getD 26 undef = y26
  generalize a.tmps.getD 27 undef = y27
  generalize a.tmps.getD 28 undef = y28
  generalize a.tmps.getD 29 undef = y29
  generalize a.tmps.getD 30 undef = y30
  have HM := Lib.hid (And.intro hg (And.intro hT (And.intro hTl hdm)))
  have HQ := Lib.hid hQ
  clear hg hT hdm hQ hTl
  repeat' (first | go_values | go_skip | go_guarded | go_step | go_upon)
  refine (next_any hW.stk hW.le.2.1 hW.le.2.2.1).mono ?_
  rintro e W1 ⟨hK1, v1, hv1, hcase⟩
  have ho1 : W1.ownsRow base 43 18 vo L.length (L.flatMap lc) := hK1.own ho (hW.apart ho)
  rcases hcase with ⟨hpop, rfl, hS1⟩ | ⟨p, ks, R, A, c1, hpop, rfl, hc1, hkr, hS1⟩
  · have hW1 := hW.step hK1 hS1
    have hbz : Bk (W1.alloc (.cells #[.int .i64 0, .int .i64 0, .int .i64 0, .int .i64 0, .string ⟨#[]⟩, .bool false, .int .i64 0, .int .i64 0, .int .i64 0, .bool false, .bool false, .int .i64 0, .int .i64 0, .bool false, .bool false, .int .i64 0, .int .i64 0, .slice none 0 0] 43)) W1.heap.size 43 (ec zp (.slice none 0 0)).toArray := Bk.new _ _ _
    have HO := Lib.hid ho1
    clear hK1 hS1 hW ho ho1
    dsimp only
    repeat' (first | ((with_reducible show Oper.wp _ _ _ _ _ _); apply st_z; exact rfl; exact rfl; exact rfl; assumption; exact rfl; (intro W2 hk2 hK2 hz2; go_simp)) | go_values | go_skip | go_guarded | go_step | go_upon)
    simp only [Exit.jumps]
    have hT : T = L := by
      obtain ⟨-, -, -, p4⟩ := pop_none hpop
      have := HM.out.2.1
      rwa [p4, List.append_nil] at this
    refine HQ.out _ _ ⟨rfl, vo, rfl, ?_, hW1.bel.trans ((made_box hK2).mono hW1.bel.size)⟩
    rw [hT]
    exact (Keep.of_below (S := fun i => W1.heap.size ≤ i) (made_box hK2) fun i _ h => h).own (own_mono HO.out (by have := hW1.le; omega)) fun i hi hh => by have := (HO.out.lt i hi).2; omega
  · have hW1 := hW.step hK1 hS1
    have hbz : Bk (W1.alloc (.cells #[.int .i64 0, .int .i64 0, .int .i64 0, .int .i64 0, .string ⟨#[]⟩, .bool false, .int .i64 0, .int .i64 0, .int .i64 0, .bool false, .bool false, .int .i64 0, .int .i64 0, .bool false, .bool false, .int .i64 0, .int .i64 0, .slice none 0 0] 43)) W1.heap.size 43 (ec zp (.slice none 0 0)).toArray := Bk.new _ _ _
    clear hK1 hS1 hW ho
    dsimp only
    have hkr1 := hkr
    repeat' (first | ((with_reducible show Oper.wp _ _ _ _ _ _); apply stop_s; exact rfl) | go_values | go_skip | go_guarded | go_step | go_upon)
    refine Lib.hid ?_
    apply st_p
    · exact rfl
    · exact rfl
    · exact rfl
    · assumption
    · exact rfl
    intro W2 hk2 hK2 hz2
    have hb12 := made_box hK2
    have hW2 := hW1.below hb12
    have hkr2 := hkr1.below hb12 (by have := hW1.le; omega)
    have ho2 : W2.ownsRow base 43 18 vo L.length (L.flatMap lc) := (Keep.of_below (S := fun i => W1.heap.size ≤ i) hb12 fun i _ h => h).own ho1 fun i hi hh => by have := (ho1.lt i hi).2; omega
    have hob : ∀ i, vo.ownBlock = some i → i < W1.heap.size := fun i hi => (ho1.lt i hi).2
    have hr1 : gs < W1.heap.size := hW1.stk.len
    have hvr : ∀ i, v1.ownBlock = some i → i < W1.heap.size := by
      obtain ⟨xs, hr, -⟩ := hW1.stk.row
      exact fun i hi => (hr.lt i hi).2
    clear hbz hkr1 hkr hK2 hz2 hb12 ho1
    obtain ⟨q1, q2, -, q4, q5⟩ := pop_some hpop
    obtain ⟨h1, h2, h3, h4⟩ := HM.out
    have hRl : R.reverse.length ≤ 100000 := by rw [List.length_reverse]; omega
    rw [q4] at h2
    generalize hr0 : W1.heap.size = r at *
    have hW1b : base ≤ r := by have := hW1.le; omega
    have hBr : B ≤ base := hW1.le.2.1
    clear hW1
    by_cases hl : leafB p = true
    · have hk : p.kind = 2 ∨ p.kind = 3 ∨ p.kind = 4 ∨ p.kind = 5 ∨ p.kind = 6 := by
        have := of_decide_eq_true hl
        omega
      rw [if_pos hl] at h2
      have hset := hk2.set_ 17 (.slice none 0 0)
      have hset2 : Bk (W2.setCell ⟨r, 17, none⟩ (.slice none 0 0)) r 43 (ec p (.slice none 0 0)).toArray := hset
      have hKs : Keep (fun i => i = r) W2 (W2.setCell ⟨r, 17, none⟩ (.slice none 0 0)) := (Keep.refl (fun i => i = r) W2).setCell (p := ⟨r, 17, none⟩) (fun _ => rfl) _
      have f17 : W2.frozen? ⟨r, 17, none⟩ = false := hk2.frozen 17
      have c17 : W2.cell? ⟨r, 17, none⟩ = some (.slice A ks.length c1) := hk2.cell 17
      have c0 : W2.cell? ⟨r, 0, none⟩ = some (.int .i64 p.kind) := hk2.cell 0
      have HX := Lib.hid (And.intro hW2 (And.intro ho2 (And.intro hk2 hKs)))
      clear hset hl hW2 ho2 hk2 hKs hkr2
      have hLT : L.length ≤ 99999 := by have := congrArg List.length h2; simp at this; omega
      rcases hk with h | h | h | h | h
      all_goals
        rw [h] at c0
        clear h
        repeat' (first | ((with_reducible show Oper.wp _ _ _ _ _ _); apply ld_p; exact rfl; exact rfl; assumption; go_simp) | ((with_reducible show Oper.wp _ _ _ _ _ _); apply bs_1; exact rfl; exact rfl; go_simp) | ((with_reducible show Oper.wp _ _ _ _ _ _); apply stop_app; exact rfl) | go_values | go_skip | go_guarded | go_step | go_upon)
        refine Lib.hid ?_
        obtain ⟨hW2, ho2, hk2, hKs⟩ := HX.out
        have hz3 : (W2.setCell ⟨r, 17, none⟩ (.slice none 0 0)).heap.size = W2.heap.size := by simp [World.setCell]
        clear HX c0 c17 f17 hk2
        generalize W2.setCell ⟨r, 17, none⟩ (.slice none 0 0) = W3 at *
        have ho3 := hKs.own ho2 fun i hi e => by have := hob i hi; omega
        have hW3 := hW2.keep hKs (by omega) (fun i hi e => by have := hvr i hi; omega) fun i hi e => by omega
        have hb34 := bel0 W3 (.cells (ec p (.slice none 0 0)).toArray 43)
        have hW4 := hW3.below hb34
        have ho4 := (Keep.of_below (S := fun i => W3.heap.size ≤ i) hb34 fun i _ h => h).own ho3 fun i hi hh => by have := (ho3.lt i hi).2; omega
        have hk4 := hset2.below hb34 hset2.lt
        have hkn := Bk.new W3 43 (ec p (.slice none 0 0)).toArray
        rw [hz3] at hkn
        have hz4 : W2.heap.size < (W3.alloc (.cells (ec p (.slice none 0 0)).toArray 43)).heap.size := by rw [← hz3]; simp
        clear hW2 ho2 hKs ho3 hW3 hset2 hb34 hz3
        generalize W3.alloc (.cells (ec p (.slice none 0 0)).toArray 43) = W4 at *
        refine wp_app exprRow (.tmp 25) (.tmp 27) rfl rfl rfl ho4 (bk_rd (k := 18) (n := 1) hkn rfl) lc_one (by unfold maxLen; omega) (by omega) (by have := hW4.le; omega) ?_
        intro vo2 W5 ho5 hG hb5
        have hKG : Keep (fun i => vo.ownBlock = some i) W4 W5 := Keep.of_grew hG fun i hi => hi.symm
        have hW5 := hW4.keep hKG (fun e => hW4.apart ho4 _ e (.inl rfl)) (fun i hi e => hW4.apart ho4 i e (.inr hi)) fun i hi e => by have := (ho4.lt i e).1; omega
        have hk5 := hKG.bk hk4 fun e => by have := hob r e; omega
        clear hKG hG hb5 hW4 ho4 hk4 hkn hz4
        go_simp
        repeat' (first | ((with_reducible show Oper.wp _ _ _ _ _ _); apply ld_p; exact rfl; exact rfl; assumption; go_simp) | go_values | go_skip | go_guarded | go_step | go_upon)
        refine (enter_any (ks := []) (A := none) (c := 0) hW5.stk hW5.le.2.1 hW5.le.2.2.1 hW5.le.2.2.2 (Nat.le_refl _) (RowF.nil _ _ _ _) (by omega)).mono ?_
        rintro e W6 ⟨rfl, hK6, v3, hl3, hS6⟩
        have hW6 := hW5.step hK6 hS6
        have ho6 := hK6.own ho5 (hW5.apart ho5)
        clear hK6 hS6 hW5 ho5 hk5
        dsimp only
        repeat' (first | go_values | go_skip | go_guarded | go_step | go_upon)
        go_step3
        refine ⟨szR K.reverse, h1, rfl, rfl, rfl, rfl, v3, vo2, R.reverse ++ [[]], L ++ [p], rfl, hW6, ?_, ?_, ?_, h3, ?_⟩
        · rw [List.length_append, List.flatMap_append, show [p].flatMap lc = lc p by simp]
          exact ho6
        all_goals rw [List.reverse_append, List.reverse_reverse, List.reverse_singleton, List.singleton_append]
        · simp only [szR, cntL] at q1 ⊢
          omega
        · rw [h2, List.append_assoc]
          rfl
        · have e1 : dmR ([] :: R) = dmR R := by simp [dmR]
          have e2 : dmR R ≤ dmR (ks :: R) := Nat.le_max_right _ _
          omega
    · rw [if_neg hl] at h2
      have c0 : W2.cell? ⟨r, 0, none⟩ = some (.int .i64 p.kind) := hk2.cell 0
      have hnk : ¬ (2 ≤ p.kind ∧ p.kind ≤ 6) := fun h => hl (decide_eq_true h)
      have g2 : (p.kind == 2) = false := by rw [beq_eq_false_iff_ne]; omega
      have g3 : (p.kind == 3) = false := by rw [beq_eq_false_iff_ne]; omega
      have g4 : (p.kind == 4) = false := by rw [beq_eq_false_iff_ne]; omega
      have g5 : (p.kind == 5) = false := by rw [beq_eq_false_iff_ne]; omega
      have g6 : (p.kind == 6) = false := by rw [beq_eq_false_iff_ne]; omega
      clear hl hnk
      repeat' (first | ((with_reducible show Oper.wp _ _ _ _ _ _); apply ld_p; exact rfl; exact rfl; assumption; go_simp) | go_values | go_skip | go_guarded | go_step | go_upon)
      refine (enter_any hW2.stk hW2.le.2.1 hW2.le.2.2.1 hW2.le.2.2.2 hc1 hkr2 (by omega)).mono ?_
      rintro e W6 ⟨rfl, hK6, v3, hl3, hS6⟩
      have hW6 := hW2.step hK6 hS6
      have ho6 := hK6.own ho2 (hW2.apart ho2)
      clear hK6 hS6 hW2 ho2 hk2 hkr2 c0
      dsimp only
      repeat' (first | go_values | go_skip | go_guarded | go_step | go_upon)
      go_step3
      refine ⟨szR K.reverse, h1, rfl, rfl, rfl, rfl, v3, vo, R.reverse ++ [ks], L, rfl, hW6, ho6, ?_, ?_, h3, ?_⟩
      all_goals rw [List.reverse_append, List.reverse_reverse, List.reverse_singleton, List.singleton_append]
      · omega
      · exact h2
      · omega

set_option maxRecDepth 20000 in
set_option maxHeartbeats 2000000 in
theorem refs_any {w : World} {p : Pay} {ks : List Tr} {A : Option Addr} {c : Nat} (h : AtT w p ks A c) (hC : cntT (.mk p ks) ≤ 100000) :
    Calls Tryd.prog 12 #[.agg (ec p (.slice A ks.length c)).toArray] w fun e W => ∃ vo, e = .returned vo ∧ W.ownsRow w.heap.size 43 18 vo (rfT (.mk p ks)).length ((rfT (.mk p ks)).flatMap lc) ∧ Below w.heap.size w W := by
  have hTl : (rfT (.mk p ks)).length ≤ 100000 := by
    have := rf_len _ [.mk p ks] (Nat.le_refl _)
    simp only [rfL, cntL, List.append_nil] at this
    omega
  have hD := dp_cntT (.mk p ks)
  obtain ⟨w1, hw1⟩ : ∃ w1, w1 = w.alloc (.cells (ec p (.slice A ks.length c)).toArray 43) := ⟨_, rfl⟩
  have hb1 : Below w.heap.size w w1 := by rw [hw1]; exact bel0 _ _
  have h1 := h.below hb1
  have hk1 : Bk w1 w.heap.size 43 (ec p (.slice A ks.length c)).toArray := by rw [hw1]; exact Bk.new _ _ _
  go_enter Tryd.func12, Tryd.ntmps12
  repeat' (first | go_values | go_skip | go_guarded | go_step | go_upon)
  rw [← hw1]
  clear hw1 h
  rename_i Q'
  have hQ : ∀ a W, ReF w (rfT (.mk p ks)) a W → Q' .ret a W := by
    rintro a W ⟨hd, vo, h4, h5, hb⟩
    refine bodyPost_ret (v := vo) ?_ hd ⟨vo, rfl, h5, hb⟩
    simp [results, Tryd.results12, go_sem, h4]
  clear_value Q'
  refine wp_scope_ghost (ReJ w (w1.heap.size + 2) (w1.heap.size + 2) (w1.heap.size + 3) (rfT (.mk p ks))) ?_ ?_
  · repeat' (first | ((with_reducible show Oper.wp _ _ _ _ _ _); apply ld_p; exact rfl; exact rfl; assumption; go_simp) | go_values | go_skip | go_guarded | go_step | go_upon)
    refine (start_any h1.1 h1.2).mono ?_
    rintro e W ⟨v, xs, rfl, hb, hsz, ho, hh⟩
    obtain ⟨S, c', rfl, -⟩ := own_form ho
    have HW := Lib.hid (way_start hb1 hb hsz ho hh)
    dsimp only
    repeat' (first | go_values | go_skip | go_guarded | go_step | go_upon)
    go_step3
    rename_i Kk hKk
    refine hKk _ _ (wp_mono (refs_pass (B := w1.heap.size + 2) (base := w1.heap.size + 2) (gs := w1.heap.size + 3) hQ (g := cntT (.mk p ks) + 1) rfl rfl ?_) ?_)
    · refine ⟨rfl, rfl, rfl, rfl, _, .slice none 0 0, [[.mk p ks]], [], rfl, HW.out, World.ownsRow_nil _ _ _ _, ?_, ?_, hTl, ?_⟩
      · simp [szR, cntL]
      · simp [rfR, rfL]
      · simp [dmR, dpL]
        omega
    · intro e a W hq
      cases e with
      | goto l =>
        obtain ⟨g', -, h⟩ := hq
        exact ⟨g', h⟩
      | _ => exact hq
  · intro g l a W hJ
    obtain rfl := hJ.1
    exact ⟨_, rfl, wp_seq (wp_skip (refs_pass hQ rfl rfl hJ))⟩
end Go.Proofs.YtofbmlfpkcociaaDoor
