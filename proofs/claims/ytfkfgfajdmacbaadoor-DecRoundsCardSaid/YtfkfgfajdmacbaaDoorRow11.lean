/- The reference's round and RoundDec by their contracts. Condition: a decimal that stands, within 64 bits. -/
import Derived.Test.YtfkfgfajdmacbaaDoorRow10
namespace Go.Proofs.YtfkfgfajdmacbaaDoor
open Go.RowKit

set_option maxHeartbeats 1000000 in
theorem rnd0_any {w : World} {x : Value} {V : Int} {s : Nat} {p : Int} (hx : BigN w x V) (hsp : (s : Int) ≤ p) :
    Calls Tryd.prog 32 #[x, .int .i64 (s : Nat), .int .i64 p] w fun e w' => ∃ y, e = .returned (.tuple #[y, .int .i64 (s : Nat)]) ∧ BigN w' y V ∧ Below w.heap.size w w' := by
  have hx' := hx
  obtain ⟨A, n, c, rfl, hnc, hcm, h⟩ := hx
  have hfin := hx'.below (bel1 w (.cells #[.bool (decide (V < 0)), .slice A n c] 59) (.cells #[.bool (decide (V < 0)), .slice A n c] 59))
  generalize decide (V < 0) = b at *
  go_enter Tryd.func32, Tryd.ntmps32
  go_wp2
  refine bodyPost_ret (v := .tuple #[.agg #[.bool b, .slice A n c], .int .i64 (s : Nat)]) (by simp [results, Tryd.results32, go_sem]) rfl ⟨_, rfl, hfin, bel1 _ _ _⟩
theorem rnd_all {w : World} {x : Value} {V : Int} {s : Nat} {p : Int} (hx : BigN w x V) (hl : (digs V.natAbs).length ≤ 500) (hs : s ≤ 100) (hp : -100 ≤ p) (hp9 : p ≤ 100) :
    Calls Tryd.prog 32 #[x, .int .i64 (s : Nat), .int .i64 p] w fun e w' => ∃ y, e = .returned (.tuple #[y, .int .i64 (if (s : Int) ≤ p then (s : Int) else p)]) ∧ BigN w' y (rndI V (s - p).toNat) ∧ Below w.heap.size w w' := by
  by_cases h : (s : Int) ≤ p
  · rw [if_pos h, show ((s : Int) - p).toNat = 0 by omega, rndI_zero]
    exact rnd0_any hx h
  · rw [if_neg h]
    exact rndZ_any hx hl hs hp (by omega) hp9
def FTup (V q : Int) : Value → World → Prop := fun v W => ∃ y, v = .tuple #[y, .int .i64 q] ∧ BigN W y V
theorem st_tup {V q : Int} : Stable EI (FTup V q) := fun v w w' hE h => by
  obtain ⟨y, h1, h2⟩ := h
  exact ⟨y, h1, BigV.ei h2 hE⟩
theorem digs_i64 {m : Int} (h0 : -9223372036854775808 ≤ m) (h1 : m ≤ 9223372036854775807) : (digs m.natAbs).length ≤ 20 := digs_20 (by omega)

set_option maxRecDepth 20000 in
set_option maxHeartbeats 2000000 in
theorem roundDec_any {w : World} {m p : Int} {s : Nat} (h0 : -9223372036854775808 ≤ m) (h1 : m ≤ 9223372036854775807) (hs : s ≤ 9) :
    Calls Tryd.prog 14 #[.agg #[.int .i64 m, .int .i64 (s : Nat)], .int .i64 p] w fun e w' => e = .returned (.tuple #[.agg #[.int .i64 (roundD m s p).m, .int .i64 ((roundD m s p).s : Nat)], .int .i64 ((roundD m s p).e : Nat)]) ∧ Below w.heap.size w w' := by
  by_cases hlo : p < -18
  · have HV : Hid (roundD m s p = ⟨0, 0, 1⟩) := Lib.hid (by unfold roundD; rw [if_pos (.inl hlo)])
    go_enter Tryd.func14, Tryd.ntmps14
    go_wp2
    refine bodyPost_ret (v := .tuple #[.agg #[.int .i64 0, .int .i64 0], .int .i64 1]) (by simp [results, Tryd.results14, go_sem]) rfl ⟨by rw [HV.out]; rfl, bel1 _ _ _⟩
  by_cases hhi : 9 < p
  · have HV : Hid (roundD m s p = ⟨0, 0, 1⟩) := Lib.hid (by unfold roundD; rw [if_pos (.inr hhi)])
    go_enter Tryd.func14, Tryd.ntmps14
    go_wp2
    refine bodyPost_ret (v := .tuple #[.agg #[.int .i64 0, .int .i64 0], .int .i64 1]) (by simp [results, Tryd.results14, go_sem]) rfl ⟨by rw [HV.out]; rfl, bel1 _ _ _⟩
  have HRND : Hid (∀ (W : World) (x : Value), BigN W x m → Calls Tryd.prog 32 #[x, .int .i64 (s : Nat), .int .i64 p] W fun e w' => ∃ y, e = .returned (.tuple #[y, .int .i64 (if (s : Int) ≤ p then (s : Int) else p)]) ∧ BigN w' y (rndI m (s - p).toNat) ∧ Below W.heap.size W w') := Lib.hid (fun W x hx => rnd_all hx (Nat.le_trans (digs_i64 h0 h1) (by omega)) (by omega) (by omega) (by omega))
  have HV := Lib.hid (show roundD m s p = tl (rndI m (s - p).toNat * 10 ^ (-p).toNat) (min s p.toNat) by unfold roundD; rw [if_neg (by omega)])
  have hRa := rndI_abs m (s - p).toNat
  generalize rndI m (s - p).toNat = R at *
  obtain ⟨q, hq⟩ : ∃ q, (if (s : Int) ≤ p then (s : Int) else p) = q := ⟨_, rfl⟩
  have Hq := Lib.hid hq
  rw [hq] at HRND
  clear hq
  have HSB : Hid (SB w 2 [(w.heap.size, 25, #[.int .i64 m, .int .i64 (s : Nat)]), (w.heap.size + 1, 25, #[.int .i64 0, .int .i64 0])] ((w.alloc (.cells #[.int .i64 m, .int .i64 (s : Nat)] 25)).alloc (.cells #[.int .i64 0, .int .i64 0] 25))) := Lib.hid
    ((sb1 w 25 _).push (by simp) 25 _).swp
  go_enter Tryd.func14, Tryd.ntmps14
  go_wp2_with fail
  refine wp_region_phases (S := (S3 w 2 ([(w.heap.size, 25, #[.int .i64 m, .int .i64 (s : Nat)]), (w.heap.size + 1, 25, #[.int .i64 0, .int .i64 0])] : List (Nat × TypeId × Array Value)) R)) (E := EI) [10, 11] [(1, Is (.int .i64 p)), (2, Is (.pointer (some ⟨w.heap.size, 0, none⟩))), (4, Is (.pointer (some ⟨w.heap.size + 1, 0, none⟩)))] [(16, Is (.pointer (some ⟨w.heap.size, 0, none⟩))), (17, Is (.int .i64 m)), (18, FNum m), (19, Is (.pointer (some ⟨w.heap.size, 1, none⟩))), (20, Is (.int .i64 (s : Nat))), (21, Is (.int .i64 p)), (22, FTup R q), (15, FTup R q), (23, FNum R), (24, Is (.int .i64 q)), (7, Is (.int .i64 q))]
    [.op [2] none, .op [16] none, .op [17] none, .op [2] none, .op [19] none, .op [1] none, .op [18, 20, 21] none, .op [22] none, .op [15] none, .op [15] none, .phase 0 [] [], .phase 1 [23] [(0, 6)], .op [24] none] (by as_aux_lemma => kernel_rfl) ?_ ?_ ?_ ?_ ?_ ⟨stable_is _ _, stable_is _ _, stable_is _ _, stable_is _ _, stable_is _ _, st_num, stable_is _ _, stable_is _ _, stable_is _ _, st_tup, st_tup, st_num, stable_is _ _, stable_is _ _, trivial⟩ ?_ (HSB.out.drew) ?_ ?_
  · as_aux_lemma => kernel_rfl
  · as_aux_lemma => kernel_rfl
  · as_aux_lemma => kernel_rfl
  · as_aux_lemma => kernel_rfl
  · as_aux_lemma => kernel_rfl
  · exact ⟨rfl, rfl, rfl, trivial⟩
  · refine ⟨?_, ?_, ?_, ?_, ?_, ?_, ?_, ?_, ?_, ?_, ?_, ?_, ?_, trivial⟩
    · as_aux_lemma =>
        intro vals a W hS hL
        have e2 : a.tmps.getD 2 undef = .pointer (some ⟨w.heap.size, 0, none⟩) := hL.1
        clear hL
        go_simp
        exact ⟨⟨fun d hd => by injection hd with hd; subst hd; rfl, fun h => by cases h⟩, hS, EI.refl _⟩
    · as_aux_lemma =>
        intro vals a W hS hL
        have e16 : a.tmps.getD 16 undef = .pointer (some ⟨w.heap.size, 0, none⟩) := hL.1
        clear hL
        have kb : Bk W w.heap.size 25 #[.int .i64 m, .int .i64 (s : Nat)] := hS.bk (.head _)
        have f0 := kb.cell 0
        have f1 := kb.cell 1
        clear kb
        go_simp
        exact ⟨⟨fun d hd => by injection hd with hd; subst hd; rfl, fun h => by cases h⟩, hS, EI.refl _⟩
    · as_aux_lemma =>
        intro vals a W hS hL
        have e17 : a.tmps.getD 17 undef = .int .i64 m := hL.1
        clear hL
        go_simp
        refine (bigN_big h0 h1).mono ?_
        rintro e W1 ⟨y, rfl, hy, hb⟩
        exact ⟨_, rfl, ⟨fun d hd => by injection hd with hd; subst hd; exact hy, fun h => by cases h⟩, hS.call hb, EI.of_below hb⟩
    · as_aux_lemma =>
        intro vals a W hS hL
        have e2 : a.tmps.getD 2 undef = .pointer (some ⟨w.heap.size, 0, none⟩) := hL.1
        clear hL
        go_simp
        exact ⟨⟨fun d hd => by injection hd with hd; subst hd; rfl, fun h => by cases h⟩, hS, EI.refl _⟩
    · as_aux_lemma =>
        intro vals a W hS hL
        have e19 : a.tmps.getD 19 undef = .pointer (some ⟨w.heap.size, 1, none⟩) := hL.1
        clear hL
        have kb : Bk W w.heap.size 25 #[.int .i64 m, .int .i64 (s : Nat)] := hS.bk (.head _)
        have f0 := kb.cell 0
        have f1 := kb.cell 1
        clear kb
        go_simp
        exact ⟨⟨fun d hd => by injection hd with hd; subst hd; rfl, fun h => by cases h⟩, hS, EI.refl _⟩
    · as_aux_lemma =>
        intro vals a W hS hL
        have e1 : a.tmps.getD 1 undef = .int .i64 p := hL.1
        clear hL
        go_simp
        exact ⟨⟨fun d hd => by injection hd with hd; subst hd; rfl, fun h => by cases h⟩, hS, EI.refl _⟩
    · as_aux_lemma =>
        intro vals a W hS hL
        have e18 := hL.1
        have e20 : a.tmps.getD 20 undef = .int .i64 (s : Nat) := hL.2.1
        have e21 : a.tmps.getD 21 undef = .int .i64 p := hL.2.2.1
        clear hL
        have hnum := e18
        obtain ⟨A1, n1, c1, e18, hm1, hc1, h18⟩ := e18
        rw [show a.tmps.getD 18 undef = _ from e18] at hnum
        go_simp
        refine (HRND.out _ _ hnum).mono ?_
        rintro e W1 ⟨y, rfl, hy, hb⟩
        exact ⟨_, rfl, ⟨fun d hd => by injection hd with hd; subst hd; exact ⟨y, rfl, hy⟩, fun h => by cases h⟩, hS.call hb, EI.of_below hb⟩
    · as_aux_lemma =>
        intro vals a W hS hL
        have e22 := hL.1
        clear hL
        obtain ⟨y, e22, h22⟩ := e22
        go_simp
        exact ⟨⟨fun d hd => by injection hd with hd; subst hd; exact ⟨y, rfl, h22⟩, fun h => by cases h⟩, hS, EI.refl _⟩
    · as_aux_lemma =>
        intro vals a W hS hL
        have e15 := hL.1
        clear hL
        obtain ⟨y, e15, h15⟩ := e15
        go_simp
        exact ⟨⟨fun d hd => by injection hd with hd; subst hd; exact h15, fun h => by cases h⟩, hS, EI.refl _⟩
    · as_aux_lemma =>
        intro vals a W hS hL
        have e15 := hL.1
        clear hL
        obtain ⟨y, e15, -⟩ := e15
        go_simp
        exact ⟨⟨fun d hd => by injection hd with hd; subst hd; rfl, fun h => by cases h⟩, hS, EI.refl _⟩
    · as_aux_lemma =>
        intro a W vals hv hS hL hp
        clear hL
        match vals, hv, hS with
        | [], _, hS =>
          have hB : SB w 2 ([(w.heap.size, 25, #[.int .i64 m, .int .i64 (s : Nat)]), (w.heap.size + 1, 25, #[.int .i64 0, .int .i64 0])] : List (Nat × TypeId × Array Value)) W := hS
          have hF := hB.alloc 59 #[.bool false, .slice none 0 0]
          have hz := hB.size
          have hb : Below W.heap.size W (W.alloc (.cells #[.bool false, .slice none 0 0] 59)) := (Below.refl _ _).alloc (Nat.le_refl _) _
          go_simp
          exact ⟨⟨_, rfl, hz, hF⟩, trivial, EI.of_below hb⟩
    · as_aux_lemma =>
        intro a W vals hv hS hL hp
        have e23 := hL.1
        clear hL
        match vals, hv, hS with
        | [v], _, hS =>
          obtain ⟨g, rfl, hg, hB⟩ := hS
          have e6 := hp.1 (by simp)
          simp only [List.getElem?_cons_zero, Option.some.injEq] at e6
          have hnum := e23
          obtain ⟨A4, n4, c4, e23, hm4, hc4, h23⟩ := e23
          have kz := hB.bk _ (List.mem_cons_self ..)
          have hlt : ∀ x ∈ ([(w.heap.size, 25, #[.int .i64 m, .int .i64 (s : Nat)]), (w.heap.size + 1, 25, #[.int .i64 0, .int .i64 0])] : List (Nat × TypeId × Array Value)), x.1 ≠ g := by simp <;> omega
          have z0 := kz.frozen 0
          have z1 := kz.frozen 1
          have q0 := kz.cell 0
          have q1 := kz.cell 1
          rw [show a.tmps.getD 23 undef = _ from e23] at hnum
          have hF := hB.set2 (by omega) hlt (.bool (decide (R < 0))) (.slice A4 n4 c4)
          have hN := BigN.box2 (b' := decide (R < 0)) (A' := A4) (n' := n4) (c' := c4) hnum kz
          have hE := (EI.set (i := 0) (u := .bool (decide (R < 0))) kz (show (59 : TypeId) ≠ 3 by decide) no_big).trans (EI.set (i := 1) (u := .slice A4 n4 c4) (show Bk (W.setCell ⟨g, 0, none⟩ (.bool (decide (R < 0)))) g 59 #[.bool (decide (R < 0)), .slice none 0 0] by simpa using kz.set_ 0 (.bool (decide (R < 0)))) (show (59 : TypeId) ≠ 3 by decide) no_big)
          rw [Array.getD_eq_getD_getElem?] at e23 e6
          have e6x := e6.symm
          clear e6 hS kz hB hnum
          go_simp
          exact ⟨⟨g, _, rfl, hg, hN, hF⟩, trivial, hE⟩
    · as_aux_lemma =>
        intro vals a W hS hL
        have e24 : a.tmps.getD 24 undef = .int .i64 q := hL.1
        clear hL
        go_simp
        exact ⟨⟨fun d hd => by injection hd with hd; subst hd; rfl, fun h => by cases h⟩, hS, EI.refl _⟩
  · intro a W' vals hd hsz hT hF hv hP hS
    obtain ⟨v0, v1, rfl⟩ : ∃ v0 v1, vals = [v0, v1] := by
      match vals, hv with
      | [x, y], _ => exact ⟨x, y, rfl⟩
    obtain ⟨g, cs, hg0, hg, hN, hB⟩ : ∃ g cs, v0 = .pointer (some ⟨g, 0, none⟩) ∧ w.heap.size + 2 ≤ g ∧ BigN W' (.agg cs) R ∧ SB w 2 ((g, 59, cs) :: ([(w.heap.size, 25, #[.int .i64 m, .int .i64 (s : Nat)]), (w.heap.size + 1, 25, #[.int .i64 0, .int .i64 0])] : List (Nat × TypeId × Array Value))) W' := hS
    subst hg0
    have e6 : a.tmps.getD 6 undef = .pointer (some ⟨g, 0, none⟩) := by
      have := hP 0 10 _ 6 rfl (by simp) rfl rfl
      simpa using this.symm
    have e4 : a.tmps.getD 4 undef = .pointer (some ⟨w.heap.size + 1, 0, none⟩) := hT 4 (by simp)
    have e7 : a.tmps.getD 7 undef = .int .i64 q := hT 7 (by simp)
    clear hT hF hP
    rw [act_lit 36 a hd hsz]
    simp only [List.range, List.range.loop, List.map, e4, e7, e6]
    clear e4 e7 e6
    obtain ⟨A4, n4, c4, hcs, hm4, hc4, h4⟩ := hN
    injection hcs with hcs
    subst hcs
    have hN : BigN W' (.agg #[.bool (decide (R < 0)), .slice A4 n4 c4]) R := ⟨A4, n4, c4, rfl, hm4, hc4, h4⟩
    have hbs : ∀ x ∈ ([(w.heap.size, 25, #[.int .i64 m, .int .i64 (s : Nat)]), (w.heap.size + 1, 25, #[.int .i64 0, .int .i64 0])] : List (Nat × TypeId × Array Value)), x.1 ≠ g := by simp <;> omega
    have hRd : (digs R.natAbs).length ≤ 500 := Nat.le_trans (digs_len.2 (show R.natAbs < 10 ^ 20 by omega)) (by omega)
    clear HRND HSB
    by_cases hneg : q < 0
    · obtain ⟨j, hj, hjp, hj18⟩ : ∃ j : Nat, -q = (j : Int) ∧ (-p).toNat = j ∧ j ≤ 18 := by
        have hq := Hq.out
        split at hq
        · omega
        · exact ⟨(-p).toNat, by omega, rfl, by omega⟩
      have HJ1 := Lib.hid (show wrap64 (-q) = (j : Int) by rw [hj]; exact IntWalk.wrap64_in _ ⟨by omega, by omega⟩)
      have HVV : Hid (roundD m s p = tl (R * 10 ^ j) 0) := Lib.hid (by
        rw [HV.out, hjp, show min s p.toNat = 0 by have hq := Hq.out; split at hq <;> omega])
      have hRu : (digs (R * 10 ^ j).natAbs).length ≤ 500 := by
        refine Nat.le_trans ((digs_len (k := 40)).2 ?_) (by omega)
        rw [Int.natAbs_mul, Int.natAbs_pow]
        have e1 : 10 ^ j ≤ 10 ^ 18 := Nat.pow_le_pow_right (by omega) hj18
        calc R.natAbs * 10 ^ j ≤ 10 ^ 20 * 10 ^ 18 := Nat.mul_le_mul (by omega) e1
          _ < 10 ^ 40 := by decide
      clear HV Hq hlo hhi h0 h1 hs hj hjp
      have kg := hB.bk _ (.head _)
      have cg0 := kg.cell 0
      have cg1 := kg.cell 1
      have hj1 := HJ1.out
      go_wp2_with fail
      refine (up_any hN hRd (by omega)).mono ?_
      rintro e w2 ⟨y, rfl, hy, hb⟩
      have hB2 := hB.call hb
      have hy2 := hy
      obtain ⟨A5, n5, c5, rfl, hm5, hc5, h5⟩ := hy
      generalize decide (R * 10 ^ j < 0) = b5 at *
      have k2 := hB2.bk _ (.head _)
      have d0 := k2.cell 0
      have d1 := k2.cell 1
      have z0 := k2.frozen 0
      have z1 := k2.frozen 1
      have hF := hB2.set2 (by omega) hbs (.bool b5) (.slice A5 n5 c5)
      have hN5 := hy2.box2 (b' := b5) (A' := A5) (n' := n5) (c' := c5) k2
      clear hb cg0 cg1 hj1
      go_wp2_with fail
      generalize (w2.setCell ⟨g, 0, none⟩ (.bool b5)).setCell ⟨g, 1, none⟩ (.slice A5 n5 c5) = W3 at *
      have k3 := hF.bk _ (.head _)
      have f0 := k3.cell 0
      have f1 := k3.cell 1
      refine (small_any (s := 0) hN5 hRu (by omega)).mono ?_
      rintro e w4 ⟨rfl, hb⟩
      rw [← HVV.out]
      have hB4 := hF.call hb
      have kr := hB4.bk _ (.tail _ (.tail _ (.head _)))
      have r0 := kr.cell 0
      have r1 := kr.cell 1
      have y0 := kr.frozen 0
      have y1 := kr.frozen 1
      have hbel := hB4.bel
      obtain ⟨dm, ds, de, hD⟩ : ∃ dm ds de, roundD m s p = ⟨dm, ds, de⟩ := ⟨_, _, _, rfl⟩
      rw [hD]
      dsimp only
      go_wp2
      refine bodyPost_ret (v := .tuple #[.agg #[.int .i64 dm, .int .i64 (ds : Nat)], .int .i64 (de : Nat)]) (by simp [results, Tryd.results14, go_sem, r0, r1]) rfl ⟨rfl, (hbel.setCell (by simp) _).setCell (by simp) _⟩
    · obtain ⟨j, rfl, hj, hjp, hj9⟩ : ∃ j : Nat, q = (j : Int) ∧ min s p.toNat = j ∧ (-p).toNat = 0 ∧ j ≤ 9 := by
        have hq := Hq.out
        refine ⟨q.toNat, by omega, ?_, ?_, ?_⟩ <;> split at hq <;> omega
      have HVV : Hid (roundD m s p = tl R j) := Lib.hid (by
        rw [HV.out, hjp, hj, Int.pow_zero, Int.mul_one])
      clear HV Hq hlo hhi h0 h1 hs hj hjp
      have hF := hB
      have hN5 := hN
      have k3 := hF.bk _ (.head _)
      have f0 := k3.cell 0
      have f1 := k3.cell 1
      go_wp2_with fail
      refine (small_any (s := j) hN5 hRd (by omega)).mono ?_
      rintro e w4 ⟨rfl, hb⟩
      rw [← HVV.out]
      have hB4 := hF.call hb
      have kr := hB4.bk _ (.tail _ (.tail _ (.head _)))
      have r0 := kr.cell 0
      have r1 := kr.cell 1
      have y0 := kr.frozen 0
      have y1 := kr.frozen 1
      have hbel := hB4.bel
      obtain ⟨dm, ds, de, hD⟩ : ∃ dm ds de, roundD m s p = ⟨dm, ds, de⟩ := ⟨_, _, _, rfl⟩
      rw [hD]
      dsimp only
      go_wp2
      refine bodyPost_ret (v := .tuple #[.agg #[.int .i64 dm, .int .i64 (ds : Nat)], .int .i64 (de : Nat)]) (by simp [results, Tryd.results14, go_sem, r0, r1]) rfl ⟨rfl, (hbel.setCell (by simp) _).setCell (by simp) _⟩
end Go.Proofs.YtfkfgfajdmacbaaDoor
