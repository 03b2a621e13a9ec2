/- expr.Same by its contract. Condition: both formulas read as trees, which are not too great. -/
import Derived.Test.YtofbmlfpkcociaaDoorS2
import Derived.Test.YtofbmlfpkcociaaDoorAl
import Derived.Test.YtofbmlfpkcociaaDoorLd
import Derived.Test.YtofbmlfpkcociaaDoorPart
set_option linter.unusedVariables false
set_option linter.unusedSimpArgs false
namespace Go.Proofs.YtofbmlfpkcociaaDoor
open Go.RowKit

def SmJ (w : World) (F1 F2 : Nat → Prop) (b1 b2 g1 g2 : Nat) (D : Prop) (g l : Nat) (a : Act) (W : World) : Prop :=
  l = 0 ∧ a.defers = [] ∧ a.tmps.size = 33 ∧ a.tmps.getD 5 undef = .pointer (some ⟨g1, 0, none⟩) ∧ a.tmps.getD 6 undef = .pointer (some ⟨g2, 0, none⟩) ∧
    ∃ (v1 v2 : Value) (K M : List (List Tr)), StkF W F1 b1 g1 v1 K ∧ StkF W F2 b2 g2 v2 M ∧ Below w.heap.size w W ∧ w.heap.size ≤ b1 ∧ w.heap.size ≤ b2 ∧ b1 ≤ W.heap.size ∧ b2 ≤ W.heap.size ∧ w.heap.size ≤ g1 ∧ w.heap.size ≤ g2 ∧
      (∀ i, StT g1 v1 i → ¬ StT g2 v2 i) ∧ (∀ i, F1 i → ¬ StT g2 v2 i) ∧ (∀ i, F2 i → ¬ StT g1 v1 i) ∧
      szR K.reverse < g ∧ K.reverse.map List.length = M.reverse.map List.length ∧ (D ↔ K.reverse = M.reverse) ∧ dmR K.reverse ≤ 100000 ∧ dmR M.reverse ≤ 100000
def SmF (w : World) (D : Prop) (a : Act) (W : World) : Prop := a.defers = [] ∧ ∃ b : Bool, a.tmps[4]? = some (.bool b) ∧ (b = true ↔ D) ∧ Below w.heap.size w W

/-- A stack that grew lies apart from what lay apart before, and was there. -/
theorem lies_apart {W : World} {g : Nat} {v v' : Value} {S : Nat → Prop} (h : Lies W v v') (hS : ∀ i, S i → i < W.heap.size) (hd : ∀ i, S i → ¬ StT g v i) : ∀ i, S i → ¬ StT g v' i := by
  intro i hi e
  rcases e with e | e
  · exact hd i hi (.inl e)
  · rcases h with h | ⟨q, h, hq⟩
    · exact hd i hi (.inr (h.symm.trans e))
    · rw [e] at h
      injection h with h
      have := hS i hi
      omega

set_option maxRecDepth 20000 in
set_option maxHeartbeats 4000000 in
theorem same_pass {w : World} {F1 F2 : Nat → Prop} {b1 b2 g1 g2 g : Nat} {D : Prop} {Q : Exit → Act → World → Prop} (hQ : ∀ a W, SmF w D a W → Q .ret a W) {r0 body rest : Code}
    (hbody : Tryd.f13.body = some (.seq r0 (.scope body))) (hr : findLabel body 0 = some (.seq .skip rest)) {a : Act} {W : World} (hJ : SmJ w F1 F2 b1 b2 g1 g2 D g 0 a W) :
    rest.wp Tryd.prog (Exit.jumps (fun l' a' W' => ∃ g', g' < g ∧ SmJ w F1 F2 b1 b2 g1 g2 D g' l' a' W') Q) a W := by
  unfold Tryd.f13 at hbody
  simp only [Option.some.injEq] at hbody
  have hb2 := Code.scope.inj (Code.seq.inj hbody).2
  clear hbody
  subst hb2
  injection hr with hr
  injection hr with _ hr
  subst hr
  obtain ⟨-, hd, hsz, e5, e6, v1, v2, K, M, h1, h2, hbel, hb1, hb2, hbw1, hbw2, hg1, hg2, hdj, hf12, hf21, hg, hsh, hD, hdm1, hdm2⟩ := hJ
  rw [act_lit 33 a hd hsz]
  simp only [List.range, List.range.loop, List.map, e5, e6]
  clear hd hsz e5 e6
  generalize a.tmps.getD 0 undef = y0
  generalize a.tmps.getD 1 undef = y1
  generalize a.tmps.getD 2 undef = y2
  generalize a.tmps.getD 3 undef = y3
  generalize a.tmps.getD 4 undef = y4
  generalize a.tmps.getD 7 undef = y7
  generalize a.tmps.getD 8 undef = y8
  generalize a.tmps.getD 9 undef = y9
  generalize a.tmps.getD 10 undef = y10
  generalize a.tmps.getD 11 undef = y11
  generalize a.tmps.getD 12 undef = y12
  generalize a.tmps.getD 13 undef = y13
  generalize a.tmps.getD 14 undef = y14
  generalize a.tmps.getD 15 undef = y15
  generalize a.tmps.getD 16 undef = y16
  generalize a.tmps.getD 17 undef = y17
  generalize a.tmps.getD 18 undef = y18
  generalize a.tmps.getD 19 undef = y19
  generalize a.tmps.getD 20 undef = y20
  generalize a.tmps.getD 21 undef = y21
  generalize a.tmps.getD 22 undef = y22
  generalize a.tmps.getD 23 undef = y23
  generalize a.tmps.getD 24 undef = y24
  generalize a.tmps.getD 25 undef = y25
  generalize a.tmps.getD 26 undef = y26
  generalize a.tmps.getD 27 undef = y27
  generalize a.tmps.getD 28 undef = y28
  generalize a.tmps.getD 29 undef = y29
  generalize a.tmps.getD 30 undef = y30
  generalize a.tmps.getD 31 undef = y31
  generalize a.tmps.getD 32 undef = y32
  have HM := Lib.hid (And.intro hg (And.intro hsh (And.intro hD (And.intro hdm1 (And.intro hdm2 hdj)))))
  have HQ := Lib.hid hQ
  have HN := Lib.hid (And.intro hb1 (And.intro hb2 (And.intro hbw1 (And.intro hbw2 (And.intro hg1 hg2)))))
  clear hg hsh hD hdm1 hdm2 hQ hdj hb1 hb2 hbw1 hbw2 hg1 hg2
  repeat' (first | go_values | go_skip | go_guarded | go_step | go_upon)
  refine (nextF_any h1).mono ?_
  rintro e W1 ⟨hK1, u1, hu1, hcase1⟩
  have hdj := HM.out.2.2.2.2.2
  obtain ⟨hb1, hb2, hbw1, hbw2, hg1, hg2⟩ := HN.out
  have t1 : ∀ i, StT g1 u1 i → StT g1 v1 i := fun i e => by
    rcases e with e | e
    · exact .inl e
    · exact .inr (hu1.symm.trans e)
  have h21 : StkF W1 F2 b2 g2 v2 M := h2.keep hK1 (fun e => hdj _ e (.inl rfl)) (fun i hi e => hdj _ e (.inr hi)) hf21
  have hbel1 : Below w.heap.size w W1 := hbel.trans (hK1.below (B := w.heap.size) (by omega) fun i hi e => by
    rcases e with e | e
    · omega
    · have := (h1.lies i e).1; omega)
  have hbz : Bk (W1.alloc (.cells #[.int .i64 0, .int .i64 0, .int .i64 0, .int .i64 0, .string ⟨#[]⟩, .bool false, .int .i64 0, .int .i64 0, .int .i64 0, .bool false, .bool false, .int .i64 0, .int .i64 0, .bool false, .bool false, .int .i64 0, .int .i64 0, .slice none 0 0] 43)) W1.heap.size 43 (ec zp (.slice none 0 0)).toArray := Bk.new _ _ _
  have hsz1 := hK1.size
  have hv2l : ∀ i, StT g2 v2 i → i < W1.heap.size := fun i e => by
    rcases e with e | e
    · rw [e]; exact h21.len
    · exact (h21.lies i e).2
  have hd1 : ∀ i, StT g1 u1 i → ¬ StT g2 v2 i := fun i e => hdj i (t1 i e)
  have hf21' : ∀ i, F2 i → ¬ StT g1 u1 i := fun i e e' => hf21 i e (t1 i e')
  have hu1l : ∀ i, StT g1 u1 i → i < W1.heap.size := fun i e => by
    rcases e with e | e
    · have := h1.len; omega
    · have := (h1.lies i (hu1.symm.trans e)).2; omega
  have HP := Lib.hid (And.intro hv2l (And.intro hd1 (And.intro hf12 (And.intro hf21' hu1l))))
  clear h1 h2 hK1 HN hv2l hd1 hf12 hf21' hf21 hu1l t1 hdj
  rcases pop_same HM.out.2.1 with ⟨pn1, pn2, heq⟩ | ⟨sx, R, sy, R', ps1, ps2, hsh2, hDD⟩
  · have heq := Lib.hid heq
    rcases hcase1 with ⟨-, rfl, hS1⟩ | ⟨_, _, _, _, _, hpop, _⟩
    · dsimp only
      repeat' (first | ((with_reducible show Oper.wp _ _ _ _ _ _); apply stop_s; exact rfl) | go_values | go_skip | go_guarded | go_step | go_upon)
      refine Lib.hid ?_
      apply st_p
      · exact rfl
      · exact rfl
      · exact rfl
      · assumption
      · exact rfl
      intro W2 hk2 hK2 hz2
      have hb12 := made_box hK2
      clear hbz hK2 hz2
      go_simp
      repeat' (first | go_values | go_skip | go_guarded | go_step | go_upon)
      refine (nextF_any (h21.below hb12)).mono ?_
      rintro e W3 ⟨hK3, u2, hu2, hcase2⟩
      rcases hcase2 with ⟨-, rfl, hS3⟩ | ⟨_, _, _, _, _, hpop, _⟩
      · have hbz : Bk (W3.alloc (.cells #[.int .i64 0, .int .i64 0, .int .i64 0, .int .i64 0, .string ⟨#[]⟩, .bool false, .int .i64 0, .int .i64 0, .int .i64 0, .bool false, .bool false, .int .i64 0, .int .i64 0, .bool false, .bool false, .int .i64 0, .int .i64 0, .slice none 0 0] 43)) W3.heap.size 43 (ec zp (.slice none 0 0)).toArray := Bk.new _ _ _
        dsimp only
        repeat' (first | ((with_reducible show Oper.wp _ _ _ _ _ _); apply stop_s; exact rfl) | go_values | go_skip | go_guarded | go_step | go_upon)
        refine Lib.hid ?_
        apply st_p
        · exact rfl
        · exact rfl
        · exact rfl
        · assumption
        · exact rfl
        intro W4 hk4 hK4 hz4
        have hb34 := made_box hK4
        clear hbz hK4 hz4
        go_simp
        repeat' (first | go_values | go_skip | go_guarded | go_step | go_upon)
        simp only [Exit.jumps]
        have hbel3 : Below w.heap.size w W3 := (hbel1.trans (hb12.mono hbel1.size)).trans (hK3.below (B := w.heap.size) (by have := hb12.size; omega) fun i hi e => by
          rcases e with e | e
          · omega
          · have := (h21.lies i e).1; omega)
        exact HQ.out _ _ ⟨rfl, true, rfl, ⟨fun _ => HM.out.2.2.1.2 heq.out, fun _ => rfl⟩, hbel3.trans (hb34.mono hbel3.size)⟩
      · rw [pn2] at hpop
        cases hpop
    · rw [pn1] at hpop
      cases hpop
  · have HDD := Lib.hid (And.intro hsh2 hDD)
    clear hsh2 hDD
    rcases hcase1 with ⟨hpop, _⟩ | ⟨p, ks, R0, A, c1, hpop, rfl, hc1, hkr, hS1⟩
    · rw [ps1] at hpop
      cases hpop
    · rw [ps1] at hpop
      injection hpop with hpop
      injection hpop with hpx hpr
      subst hpx hpr
      dsimp only
      repeat' (first | ((with_reducible show Oper.wp _ _ _ _ _ _); apply stop_s; exact rfl) | go_values | go_skip | go_guarded | go_step | go_upon)
      refine Lib.hid ?_
      apply st_p
      · exact rfl
      · exact rfl
      · exact rfl
      · assumption
      · exact rfl
      intro W2 hk2 hK2 hz2
      have hb12 := made_box hK2
      have h12 := hS1.below hb12
      have hkr2 := hkr.move (Move.of_below hb12 (fun i hi => (hS1.hf i hi).1) fun _ h => h)
      clear hbz hK2 hz2
      go_simp
      repeat' (first | go_values | go_skip | go_guarded | go_step | go_upon)
      refine (nextF_any (h21.below hb12)).mono ?_
      rintro e W3 ⟨hK3, u2, hu2, hcase2⟩
      have T2 := Lib.hid (show ∀ i, StT g2 u2 i → StT g2 v2 i from fun i e => by
        rcases e with e | e
        · exact .inl e
        · exact .inr (hu2.symm.trans e))
      rcases hcase2 with ⟨hpop, _⟩ | ⟨q, ms, R0, A', c2, hpop, rfl, hc2, hkm, hS3⟩
      · rw [ps2] at hpop
        cases hpop
      · rw [ps2] at hpop
        injection hpop with hpop
        injection hpop with hpx hpr
        subst hpx hpr
        have hbz : Bk (W3.alloc (.cells #[.int .i64 0, .int .i64 0, .int .i64 0, .int .i64 0, .string ⟨#[]⟩, .bool false, .int .i64 0, .int .i64 0, .int .i64 0, .bool false, .bool false, .int .i64 0, .int .i64 0, .bool false, .bool false, .int .i64 0, .int .i64 0, .slice none 0 0] 43)) W3.heap.size 43 (ec zp (.slice none 0 0)).toArray := Bk.new _ _ _
        have hbel2 := hbel1.trans (hb12.mono hbel1.size)
        have hbel3 : Below w.heap.size w W3 := hbel2.trans (hK3.below (B := w.heap.size) (by have := hb12.size; omega) fun i hi e => by
          rcases e with e | e
          · omega
          · have := (h21.lies i e).1; omega)
        have hk3 := hK3.bk hk2 fun e => by have := HP.out.1 _ e; omega
        have h13 := h12.keep hK3 (HP.out.2.1 _ (.inl rfl)) (fun i hi => HP.out.2.1 _ (.inr hi)) HP.out.2.2.1
        have hkr3 := hkr2.move (hK3.move (fun i hi => ⟨(h12.hf i hi).1, HP.out.2.2.1 i hi⟩) fun _ h => h)
        have hs23 : W2.heap.size ≤ W3.heap.size := hK3.size
        clear hk2 h12 hkr2 hK3 h21 hbel1 hkr hbel hS1
        dsimp only
        repeat' (first | ((with_reducible show Oper.wp _ _ _ _ _ _); apply stop_s; exact rfl) | go_values | go_skip | go_guarded | go_step | go_upon)
        refine Lib.hid ?_
        apply st_p
        · exact rfl
        · exact rfl
        · exact rfl
        · assumption
        · exact rfl
        intro W4 hk4 hK4 hz4
        have hb34 := made_box hK4
        have h14 := h13.below hb34
        have h24 := hS3.below hb34
        have hk34 := hk3.below hb34 hk3.lt
        have hkr4 := hkr3.move (Move.of_below hb34 (fun i hi => (h13.hf i hi).1) fun _ h => h)
        have hkm4 := hkm.move (Move.of_below hb34 (fun i hi => (hS3.hf i hi).1) fun _ h => h)
        have hbel4 := hbel3.trans (hb34.mono hbel3.size)
        have hs34 := hb34.size
        clear hbz hK4 hz4 h13 hS3 hk3 hkr3 hkm hbel3
        go_simp
        repeat' (first | ((with_reducible show Oper.wp _ _ _ _ _ _); apply ld_p; exact rfl; exact rfl; assumption; go_simp) | go_values | go_skip | go_guarded | go_step | go_upon)
        refine (alike_any p q A A' ks.length c1 ms.length c2).mono ?_
        rintro e W5 ⟨rfl, hb45⟩
        have h15 := h14.below hb45
        have h25 := h24.below hb45
        have hk35 := hk34.below hb45 hk34.lt
        have hk45 := hk4.below hb45 hk4.lt
        have hkr5 := hkr4.move (Move.of_below hb45 (fun i hi => (h14.hf i hi).1) fun _ h => h)
        have hkm5 := hkm4.move (Move.of_below hb45 (fun i hi => (h24.hf i hi).1) fun _ h => h)
        have hbel5 := hbel4.trans (hb45.mono hbel4.size)
        have hs45 := hb45.size
        have hs12 := hb12.size
        clear h14 h24 hk34 hk4 hkr4 hkm4 hb45 hb34 hb12 hbel4 hbel2
        dsimp only
        cases hal : alikeB p q ks.length ms.length with
        | false =>
          repeat' (first | go_values | go_skip | go_guarded | go_step | go_upon)
          simp only [Exit.jumps]
          refine HQ.out _ _ ⟨rfl, false, rfl, ⟨fun h => (by cases h), fun h => ?_⟩, hbel5⟩
          have h3 := (HDD.out.2.1 (HM.out.2.2.1.1 h)).1
          injection h3 with h3 h4
          subst h3 h4
          rw [(alike_iff (p := p) (q := p)).2 ⟨rfl, rfl⟩] at hal
          cases hal
        | true =>
          have HAL := Lib.hid (alike_iff.1 hal)
          clear hal
          have hR1 : R.length ≤ 100000 := by have := (pop_some ps1).2.1; have := HM.out.2.2.2.1; omega
          have hR2 : R'.length ≤ 100000 := by have := (pop_some ps2).2.1; have := HM.out.2.2.2.2.1; omega
          repeat' (first | ((with_reducible show Oper.wp _ _ _ _ _ _); apply ld_p; exact rfl; exact rfl; assumption; go_simp) | go_values | go_skip | go_guarded | go_step | go_upon)
          refine (enterF_any h15 (by omega) hc1 hkr5 (by rw [List.length_reverse]; omega)).mono ?_
          rintro e W6 ⟨rfl, hK6, u1', hl1, h16⟩
          have h26 := h25.keep hK6 (fun e => HP.out.2.1 _ e (T2.out _ (.inl rfl))) (fun i hi e => HP.out.2.1 _ e (T2.out _ (.inr hi))) HP.out.2.2.2.1
          have hkm6 := hkm5.move (hK6.move (fun i hi => ⟨(h25.hf i hi).1, HP.out.2.2.2.1 i hi⟩) fun _ h => h)
          have hk46 := hK6.bk hk45 fun e => by have := HP.out.2.2.2.2 _ e; omega
          have hbel6 : Below w.heap.size w W6 := hbel5.trans (hK6.below (B := w.heap.size) (by omega) fun i hi e => by
            rcases e with e | e
            · omega
            · have := (h15.lies i e).1; omega)
          have HL1 := Lib.hid (And.intro hl1 (And.intro (show ∀ i, StT g2 u2 i → i < W5.heap.size from fun i e => by
            have := HP.out.1 i (T2.out i e)
            omega) (show ∀ i, F2 i → i < W5.heap.size from fun i e => (h25.hf i e).1)))
          have hs56 := hK6.size
          clear h15 hkr5 h25 hkm5 hk35 hk45 hK6 hbel5 hl1
          dsimp only
          repeat' (first | ((with_reducible show Oper.wp _ _ _ _ _ _); apply ld_p; exact rfl; exact rfl; assumption; go_simp) | go_values | go_skip | go_guarded | go_step | go_upon)
          refine (enterF_any h26 (by omega) hc2 hkm6 (by rw [List.length_reverse]; omega)).mono ?_
          rintro e W7 ⟨rfl, hK7, u2', hl2, h27⟩
          have hd61 : ∀ i, StT g2 u2 i → ¬ StT g1 u1' i := lies_apart HL1.out.1 HL1.out.2.1 fun i e e' => HP.out.2.1 i e' (T2.out i e)
          have hf62 : ∀ i, F2 i → ¬ StT g1 u1' i := lies_apart HL1.out.1 HL1.out.2.2 HP.out.2.2.2.1
          have h17 := h16.keep hK7 (fun e => hd61 _ e (.inl rfl)) (fun i hi e => hd61 _ e (.inr hi)) fun i hi e => HP.out.2.2.1 i hi (T2.out i e)
          have hbel7 : Below w.heap.size w W7 := hbel6.trans (hK7.below (B := w.heap.size) (by omega) fun i hi e => by
            rcases e with e | e
            · omega
            · have := (h26.lies i e).1; omega)
          have hs67 := hK7.size
          have HZ := Lib.hid (And.intro (lies_apart hl2 (fun i e => by
            rcases e with e | e
            · rw [e]; exact h16.len
            · exact (h16.lies i e).2) fun i e e' => hd61 i e' e) (And.intro (lies_apart hl2 (fun i hi => (h16.hf i hi).1) fun i hi e => HP.out.2.2.1 i hi (T2.out i e)) hf62))
          clear hd61 hf62 h16 h26 hk46 hkm6 hK7 hbel6 HL1
          dsimp only
          repeat' (first | go_values | go_skip | go_guarded | go_step | go_upon)
          go_step3
          obtain ⟨hg, hsh, hD, hdm1, hdm2, -⟩ := HM.out
          obtain ⟨q1, q2, -, -, q5⟩ := pop_some ps1
          obtain ⟨z1, z2, -, -, z5⟩ := pop_some ps2
          obtain ⟨hpq, hln⟩ := HAL.out
          refine ⟨szR K.reverse, hg, rfl, rfl, rfl, rfl, rfl, u1', u2', R.reverse ++ [ks], R'.reverse ++ [ms], h17, h27, hbel7, hb1, hb2, by omega, by omega, hg1, hg2, HZ.out.1, HZ.out.2.1, HZ.out.2.2, ?_, ?_, ?_, ?_, ?_⟩
          all_goals simp only [List.reverse_append, List.reverse_reverse, List.reverse_singleton, List.singleton_append]
          · omega
          · rw [List.map_cons, List.map_cons, hln, HDD.out.1]
          · rw [hD, HDD.out.2]
            subst hpq
            simp
          · omega
          · omega

/-- What a begun stack gives. -/
theorem stk_of {w1 W : World} {g : Nat} {v : Value} {t : Tr} (hg : w1.heap.size ≤ g) (hw : w1.heap.size ≤ W.heap.size) (hk : Bk W g 64 #[v]) (h : SF w1.heap.size t v W) : ∃ F, StkF W F w1.heap.size g v [[t]] ∧ (∀ i, F i → i < w1.heap.size ∨ ∃ cs, Bk W i 43 cs) := by
  obtain ⟨r, xs, h1, ⟨cs, h2⟩, h3, h4⟩ := h
  refine ⟨fun i => i < w1.heap.size ∨ i = r, ⟨hk, ⟨xs, h3, h4⟩, fun i hi => ?_⟩, fun i hi => ?_⟩
  · rcases hi with hi | rfl
    · refine ⟨by omega, fun e => ?_⟩
      rcases e with e | e
      · omega
      · have := (h3.lt i e).1; omega
    · refine ⟨h2.lt, fun e => ?_⟩
      rcases e with e | e
      · subst e
        unfold Bk at h2 hk
        rw [h2] at hk
        injection hk with hk
        injection hk with _ hk
        exact absurd hk (by decide)
      · exact own_ne h3 h2 (by decide) e
  · rcases hi with hi | rfl
    · exact .inl hi
    · exact .inr ⟨cs, h2⟩
theorem bk_type {W : World} {i : Nat} {T T' : TypeId} {cs cs' : Array Value} (h : Bk W i T cs) (h' : Bk W i T' cs') : T = T' := by
  unfold Bk at h h'
  rw [h] at h'
  injection h' with h'
  injection h' with _ h'

set_option maxRecDepth 20000 in
set_option maxHeartbeats 4000000 in
theorem same_t {w : World} {p q : Pay} {ks ms : List Tr} {A A' : Option Addr} {c c' : Nat} (ha : AtT w p ks A c) (hb : AtT w q ms A' c') (hC1 : cntT (.mk p ks) ≤ 100000) (hC2 : cntT (.mk q ms) ≤ 100000) :
    Calls Tryd.prog 13 #[.agg (ec p (.slice A ks.length c)).toArray, .agg (ec q (.slice A' ms.length c')).toArray] w fun e W => ∃ b : Bool, e = .returned (.bool b) ∧ (b = true ↔ Tr.mk p ks = .mk q ms) ∧ Below w.heap.size w W := by
  obtain ⟨w1, hw1⟩ : ∃ w1, w1 = (w.alloc (.cells (ec p (.slice A ks.length c)).toArray 43)).alloc (.cells (ec q (.slice A' ms.length c')).toArray 43) := ⟨_, rfl⟩
  obtain ⟨ba, hba⟩ : ∃ ba, ba = w.heap.size := ⟨_, rfl⟩
  obtain ⟨bb, hbb⟩ : ∃ bb, bb = w.heap.size + 1 := ⟨_, rfl⟩
  have hbel : Below w.heap.size w w1 := by rw [hw1]; exact bel1 _ _ _
  have hka : Bk w1 ba 43 (ec p (.slice A ks.length c)).toArray := by rw [hw1, hba]; exact (Bk.new w _ _).alloc _
  have hkb : Bk w1 bb 43 (ec q (.slice A' ms.length c')).toArray := by
    have hz : (w.alloc (.cells (ec p (.slice A ks.length c)).toArray 43)).heap.size = w.heap.size + 1 := by simp
    rw [hw1, hbb, ← hz]
    exact Bk.new _ _ _
  have hla := hka.lt
  have hlb := hkb.lt
  have ha := ha.below hbel
  have hb := hb.below hbel
  have hD1 := dp_cntT (.mk p ks)
  have hD2 := dp_cntT (.mk q ms)
  go_enter Tryd.func13, Tryd.ntmps13
  repeat' (first | go_values | go_skip | go_guarded | go_step | go_upon)
  rw [← hbb, ← hba, ← hw1]
  have HBEL := Lib.hid (And.intro hbel (And.intro hba hbb))
  clear hw1 hbel hba hbb
  rename_i Q'
  have hQ : ∀ a W, SmF w (Tr.mk p ks = .mk q ms) a W → Q' .ret a W := by
    rintro a W ⟨hd, b, h4, h5, h6⟩
    refine bodyPost_ret (v := .bool b) ?_ hd ⟨b, rfl, h5, h6⟩
    simp [results, Tryd.results13, go_sem, h4]
  clear_value Q'
  refine wp_scope_ghost (fun g l a W => ∃ F1 F2 b1 b2 g1 g2, SmJ w F1 F2 b1 b2 g1 g2 (Tr.mk p ks = .mk q ms) g l a W) ?_ ?_
  · repeat' (first | go_values | go_skip | go_guarded | go_step | go_upon)
    have hst0 : S2L w1 (.mk p ks) (.mk q ms) [none, none, none, none, none, none] w1.drew := ⟨(Below.refl _ _).drew, fun v hv => (by cases hv), fun v hv => (by cases hv), fun v hv => (by cases hv), fun v hv => (by cases hv), fun v v' hv => (by cases hv), fun v v' hv => (by cases hv), fun _ => rfl, fun _ => rfl⟩
    refine wp_region_parts (S := (fun vals W => S2L w1 (.mk p ks) (.mk q ms) vals W)) (E := fun _ _ => True) [4, 5, 1, 3, 6, 7] [(0, Is (.agg (ec p (.slice A ks.length c)).toArray)), (1, Is (.agg (ec q (.slice A' ms.length c')).toArray)), (2, Is (.pointer (some ⟨ba, 0, none⟩))), (3, Is (.pointer (some ⟨bb, 0, none⟩))), (4, Is (.bool false))] [(11, Is (.agg (ec p (.slice A ks.length c)).toArray)), (13, Is (.agg (ec q (.slice A' ms.length c')).toArray))]
      [.op [2] none, .phase 2 [11] [] [], .op [3] none, .phase 3 [13] [] [2], .phase 0 [] [] [], .phase 1 [] [] [], .phase 4 [] [(0, 5), (2, 12)] [1, 3], .phase 5 [] [(1, 6), (3, 14)] [0, 2, 4]] (by as_aux_lemma => kernel_rfl) ?_ ?_ ?_ ?_ ?_ ⟨stable_is _ _, stable_is _ _, stable_is _ _, stable_is _ _, stable_is _ _, stable_is _ _, stable_is _ _, trivial⟩ ?_ hst0 ?_ ?_
    · as_aux_lemma => kernel_rfl
    · as_aux_lemma => kernel_rfl
    · as_aux_lemma => kernel_rfl
    · as_aux_lemma => kernel_rfl
    · as_aux_lemma => kernel_rfl
    · exact ⟨rfl, rfl, rfl, rfl, rfl, trivial⟩
    · refine ⟨?_, ?_, ?_, ?_, ?_, ?_, ?_, ?_, trivial⟩
      · as_aux_lemma =>
          intro vals a W hS hL
          have e2 : a.tmps.getD 2 undef = .pointer (some ⟨ba, 0, none⟩) := hL.1
          clear hL
          have hB : Below w1.heap.size w1 W := by
            match vals, hS with
            | [a, b, c, d, e, f], hS => exact hS.bel
          refine lands_v (run_ld (.tmp 2) rfl e2 (hka.below hB hla)) ?_
          exact ⟨⟨fun d hd => by injection hd with hd; subst hd; rfl, fun h => by cases h⟩, hS, trivial⟩
      · as_aux_lemma =>
          intro a W vals hv hn hS hL hp hd
          have e11 : a.tmps.getD 11 undef = .agg (ec p (.slice A ks.length c)).toArray := hL.1
          clear hL
          obtain ⟨o5, o6, o1, o2, o3, o4, rfl⟩ : ∃ o5 o6 o1 o2 o3 o4, vals = [o5, o6, o1, o2, o3, o4] := by
            match vals, hv with
            | [a, b, c, d, e, f], _ => exact ⟨a, b, c, d, e, f, rfl⟩
          have hS2 : S2 w1 (.mk p ks) (.mk q ms) o5 o6 o1 o2 o3 o4 W := hS
          obtain rfl : o1 = none := Option.some.inj hn
          go_simp
          refine (startF_any hS2.size ha.1 (ha.2.move (Move.of_below hS2.bel (fun _ h => h) fun _ h => h))).mono ?_
          rintro e W2 ⟨v, rfl, hb, hf, ho⟩
          exact ⟨v, rfl, hS2.call1 hb hf ho, trivial, trivial⟩
      · as_aux_lemma =>
          intro vals a W hS hL
          have e3 : a.tmps.getD 3 undef = .pointer (some ⟨bb, 0, none⟩) := hL.1
          clear hL
          have hB : Below w1.heap.size w1 W := by
            match vals, hS with
            | [a, b, c, d, e, f], hS => exact hS.bel
          refine lands_v (run_ld (.tmp 3) rfl e3 (hkb.below hB hlb)) ?_
          exact ⟨⟨fun d hd => by injection hd with hd; subst hd; rfl, fun h => by cases h⟩, hS, trivial⟩
      · as_aux_lemma =>
          intro a W vals hv hn hS hL hp hd
          have e13 : a.tmps.getD 13 undef = .agg (ec q (.slice A' ms.length c')).toArray := hL.1
          clear hL
          obtain ⟨o5, o6, o1, o2, o3, o4, rfl⟩ : ∃ o5 o6 o1 o2 o3 o4, vals = [o5, o6, o1, o2, o3, o4] := by
            match vals, hv with
            | [a, b, c, d, e, f], _ => exact ⟨a, b, c, d, e, f, rfl⟩
          have hS2 : S2 w1 (.mk p ks) (.mk q ms) o5 o6 o1 o2 o3 o4 W := hS
          obtain rfl : o2 = none := Option.some.inj hn
          go_simp
          refine (startF_any hS2.size hb.1 (hb.2.move (Move.of_below hS2.bel (fun _ h => h) fun _ h => h))).mono ?_
          rintro e W2 ⟨v, rfl, hb, hf, ho⟩
          exact ⟨v, rfl, hS2.call2 hb hf ho, trivial, trivial⟩
      · as_aux_lemma =>
          intro a W vals hv hn hS hL hp hd
          clear hL
          obtain ⟨o5, o6, o1, o2, o3, o4, rfl⟩ : ∃ o5 o6 o1 o2 o3 o4, vals = [o5, o6, o1, o2, o3, o4] := by
            match vals, hv with
            | [a, b, c, d, e, f], _ => exact ⟨a, b, c, d, e, f, rfl⟩
          have hS2 : S2 w1 (.mk p ks) (.mk q ms) o5 o6 o1 o2 o3 o4 W := hS
          obtain rfl : o5 = none := Option.some.inj hn
          go_simp
          exact ⟨hS2.box1, trivial, trivial⟩
      · as_aux_lemma =>
          intro a W vals hv hn hS hL hp hd
          clear hL
          obtain ⟨o5, o6, o1, o2, o3, o4, rfl⟩ : ∃ o5 o6 o1 o2 o3 o4, vals = [o5, o6, o1, o2, o3, o4] := by
            match vals, hv with
            | [a, b, c, d, e, f], _ => exact ⟨a, b, c, d, e, f, rfl⟩
          have hS2 : S2 w1 (.mk p ks) (.mk q ms) o5 o6 o1 o2 o3 o4 W := hS
          obtain rfl : o6 = none := Option.some.inj hn
          go_simp
          exact ⟨hS2.box2, trivial, trivial⟩
      · as_aux_lemma =>
          intro a W vals hv hn hS hL hp hd
          clear hL
          obtain ⟨o5, o6, o1, o2, o3, o4, rfl⟩ : ∃ o5 o6 o1 o2 o3 o4, vals = [o5, o6, o1, o2, o3, o4] := by
            match vals, hv with
            | [a, b, c, d, e, f], _ => exact ⟨a, b, c, d, e, f, rfl⟩
          have hS2 : S2 w1 (.mk p ks) (.mk q ms) o5 o6 o1 o2 o3 o4 W := hS
          have hp1 : o5 = some (a.tmps.getD 5 undef) := Option.some.inj hp.1
          have hp2 : o1 = some (a.tmps.getD 12 undef) := Option.some.inj hp.2.1
          obtain ⟨g, u, e5, hg, hkg, -⟩ := hS2.x1 _ hp1
          obtain ⟨r, xs, -, -, hro, -⟩ := hS2.y1 _ hp2
          obtain ⟨S0, cS, e12, -⟩ := own_form hro
          rw [e5] at hp1
          rw [e12] at hp2
          subst hp1 hp2
          have z0 := hkg.frozen 0
          have c0 := hkg.cell 0
          have hfin := hS2.store1 (x := undef)
          clear hS hS2 hkg hro
          rw [Array.getD_eq_getD_getElem?] at e5 e12
          go_simp
          exact ⟨hfin, trivial, trivial⟩
      · as_aux_lemma =>
          intro a W vals hv hn hS hL hp hd
          clear hL
          obtain ⟨o5, o6, o1, o2, o3, o4, rfl⟩ : ∃ o5 o6 o1 o2 o3 o4, vals = [o5, o6, o1, o2, o3, o4] := by
            match vals, hv with
            | [a, b, c, d, e, f], _ => exact ⟨a, b, c, d, e, f, rfl⟩
          have hS2 : S2 w1 (.mk p ks) (.mk q ms) o5 o6 o1 o2 o3 o4 W := hS
          have hp1 : o6 = some (a.tmps.getD 6 undef) := Option.some.inj hp.1
          have hp2 : o2 = some (a.tmps.getD 14 undef) := Option.some.inj hp.2.1
          obtain ⟨g, u, e6, hg, hkg, -⟩ := hS2.x2 _ hp1
          obtain ⟨r, xs, -, -, hro, -⟩ := hS2.y2 _ hp2
          obtain ⟨S0, cS, e14, -⟩ := own_form hro
          rw [e6] at hp1
          rw [e14] at hp2
          subst hp1 hp2
          have z0 := hkg.frozen 0
          have c0 := hkg.cell 0
          have hfin := hS2.store2 (x := undef)
          clear hS hS2 hkg hro
          rw [Array.getD_eq_getD_getElem?] at e6 e14
          go_simp
          exact ⟨hfin, trivial, trivial⟩
    intro a W' vals hd hsz hT hF hv hall hP hS
    obtain ⟨u0, hv0⟩ := hall 0 (by decide)
    obtain ⟨u1, hv1⟩ := hall 1 (by decide)
    obtain ⟨u2, hv2⟩ := hall 2 (by decide)
    obtain ⟨u3, hv3⟩ := hall 3 (by decide)
    obtain ⟨u4, hv4⟩ := hall 4 (by decide)
    obtain ⟨u5, hv5⟩ := hall 5 (by decide)
    have e5 := (hP 0 4 _ 5 _ rfl rfl rfl hv0).symm
    have e6 := (hP 1 5 _ 6 _ rfl rfl rfl hv1).symm
    obtain ⟨o5, o6, o1, o2, o3, o4, rfl⟩ : ∃ o5 o6 o1 o2 o3 o4, vals = [o5, o6, o1, o2, o3, o4] := by
      match vals, hv with
      | [a, b, c, d, e, f], _ => exact ⟨a, b, c, d, e, f, rfl⟩
    obtain rfl : o5 = some u0 := Option.some.inj hv0
    obtain rfl : o6 = some u1 := Option.some.inj hv1
    obtain rfl : o1 = some u2 := Option.some.inj hv2
    obtain rfl : o2 = some u3 := Option.some.inj hv3
    obtain rfl : o3 = some u4 := Option.some.inj hv4
    obtain rfl : o4 = some u5 := Option.some.inj hv5
    have hS2 : S2 w1 (.mk p ks) (.mk q ms) (some u0) (some u1) (some u2) (some u3) (some u4) (some u5) W' := hS
    obtain ⟨g1, x1, rfl, hg1, hx1, hc1⟩ := hS2.x1 _ rfl
    obtain ⟨g2, x2, rfl, hg2, hx2, hc2⟩ := hS2.x2 _ rfl
    obtain rfl := Option.some.inj (hc1 rfl)
    obtain rfl := Option.some.inj (hc2 rfl)
    have hgg : g1 ≠ g2 := fun e => hS2.ab _ _ rfl rfl (by rw [e])
    have hob := hS2.ob _ _ rfl rfl
    obtain ⟨F1, k1, f1⟩ := stk_of hg1 hS2.size hx1 (hS2.y1 _ rfl)
    obtain ⟨F2, k2, f2⟩ := stk_of hg2 hS2.size hx2 (hS2.y2 _ rfl)
    have apart : ∀ i, (∃ cs, Bk W' i 43 cs) → ¬ StT g1 u2 i ∧ ¬ StT g2 u3 i := by
      rintro i ⟨cs, hi⟩
      obtain ⟨y1, hr1, -⟩ := k1.row
      obtain ⟨y2, hr2, -⟩ := k2.row
      refine ⟨fun e => ?_, fun e => ?_⟩
      · rcases e with e | e
        · subst e; exact absurd (bk_type hi hx1) (by decide)
        · exact own_ne hr1 hi (by decide) e
      · rcases e with e | e
        · subst e; exact absurd (bk_type hi hx2) (by decide)
        · exact own_ne hr2 hi (by decide) e
    have low1 : ∀ i, StT g1 u2 i → w1.heap.size ≤ i := fun i e => by
      rcases e with e | e
      · omega
      · exact (k1.lies i e).1
    have low2 : ∀ i, StT g2 u3 i → w1.heap.size ≤ i := fun i e => by
      rcases e with e | e
      · omega
      · exact (k2.lies i e).1
    have HJ : Hid (∀ (aa : Act), aa.defers = [] → aa.tmps.size = 33 → aa.tmps.getD 5 undef = .pointer (some ⟨g1, 0, none⟩) → aa.tmps.getD 6 undef = .pointer (some ⟨g2, 0, none⟩) → SmJ w F1 F2 w1.heap.size w1.heap.size g1 g2 (Tr.mk p ks = .mk q ms) (cntT (.mk p ks) + 1) 0 aa W') := Lib.hid fun aa d1 d2 d3 d4 => by
      have hwb := HBEL.out.1
      refine ⟨rfl, d1, d2, d3, d4, u2, u3, [[.mk p ks]], [[.mk q ms]], k1, k2, hwb.trans (hS2.bel.mono hwb.size), hwb.size, hwb.size, hS2.size, hS2.size, by have := hwb.size; omega, by have := hwb.size; omega, ?_, ?_, ?_, ?_, rfl, ?_, ?_, ?_⟩
      · intro i e e'
        rcases e with e | e
        · rcases e' with e' | e'
          · omega
          · subst e; exact k1.row.elim fun y hy => own_ne (k2.row.choose_spec.1) hx1 (by decide) e'
        · rcases e' with e' | e'
          · subst e'; exact own_ne (k1.row.choose_spec.1) hx2 (by decide) e
          · exact hob i e e'
      · intro i hi e
        rcases f1 i hi with h | h
        · have := low2 i e; omega
        · exact (apart i h).2 e
      · intro i hi e
        rcases f2 i hi with h | h
        · have := low1 i e; omega
        · exact (apart i h).1 e
      · simp [szR, cntL]
      · simp
      · simp [dmR, dpL]; omega
      · simp [dmR, dpL]; omega
    clear hT hF hP hS hall hS2 hx1 hx2 hc1 hc2 hob k1 k2 f1 f2 apart low1 low2 hv0 hv1 hv2 hv3 hv4 hv5 hst0
    rw [act_lit 33 a hd hsz]
    simp only [List.range, List.range.loop, List.map, e5, e6]
    clear hd hsz e5 e6
    generalize a.tmps.getD 0 undef = y0
    generalize a.tmps.getD 1 undef = y1
    generalize a.tmps.getD 2 undef = y2
    generalize a.tmps.getD 3 undef = y3
    generalize a.tmps.getD 4 undef = y4
    generalize a.tmps.getD 7 undef = y7
    generalize a.tmps.getD 8 undef = y8
    generalize a.tmps.getD 9 undef = y9
    generalize a.tmps.getD 10 undef = y10
    generalize a.tmps.getD 11 undef = y11
    generalize a.tmps.getD 12 undef = y12
    generalize a.tmps.getD 13 undef = y13
    generalize a.tmps.getD 14 undef = y14
    generalize a.tmps.getD 15 undef = y15
    generalize a.tmps.getD 16 undef = y16
    generalize a.tmps.getD 17 undef = y17
    generalize a.tmps.getD 18 undef = y18
    generalize a.tmps.getD 19 undef = y19
    generalize a.tmps.getD 20 undef = y20
    generalize a.tmps.getD 21 undef = y21
    generalize a.tmps.getD 22 undef = y22
    generalize a.tmps.getD 23 undef = y23
    generalize a.tmps.getD 24 undef = y24
    generalize a.tmps.getD 25 undef = y25
    generalize a.tmps.getD 26 undef = y26
    generalize a.tmps.getD 27 undef = y27
    generalize a.tmps.getD 28 undef = y28
    generalize a.tmps.getD 29 undef = y29
    generalize a.tmps.getD 30 undef = y30
    generalize a.tmps.getD 31 undef = y31
    generalize a.tmps.getD 32 undef = y32
    repeat' (first | go_values | go_skip | go_guarded | go_step | go_upon)
    go_step3
    rename_i Kk hKk
    refine hKk _ _ (wp_mono (same_pass hQ rfl rfl (HJ.out _ rfl rfl rfl rfl)) ?_)
    intro e a W hq
    cases e with
    | goto l =>
      obtain ⟨g', -, h⟩ := hq
      exact ⟨g', _, _, _, _, _, _, h⟩
    | _ => exact hq
  · rintro g l a W ⟨F1, F2, b1, b2, g1, g2, hJ⟩
    obtain rfl := hJ.1
    refine ⟨_, rfl, wp_seq (wp_skip (wp_mono (same_pass hQ rfl rfl hJ) ?_))⟩
    intro e a W hq
    cases e with
    | goto l =>
      obtain ⟨g', hg', h⟩ := hq
      exact ⟨g', hg', _, _, _, _, _, _, h⟩
    | _ => exact hq
end Go.Proofs.YtofbmlfpkcociaaDoor
