/- Numbers in digits beside boxes; the reference's add by its contract. Condition: no more than five hundred digits. -/
import Derived.Test.YtmbjmgmnicacpaaGreatDoorRow6
namespace Go.Proofs.YtmbjmgmnicacpaaGreatDoor
open Go.RowKit

theorem Rd.boxset {w : World} {B n g i : Nat} {A : Option Addr} {l : List Nat} {T : TypeId} {cs : Array Value} {u : Value} (h : Rd w B 1 A n (dcs l)) (hk : Bk w g T cs) (hc : ∀ (j : Nat) (d : Int), cs[j]? ≠ some (.int .i64 d)) : Rd (w.setCell ⟨g, i, none⟩ u) B 1 A n (dcs l) := by
  refine ⟨h.len, fun hn => ?_⟩
  obtain ⟨a, ha, hb, hcell⟩ := h.at_ hn
  have hne : a.block ≠ g := by
    intro e
    obtain ⟨a', u', ha', -, hu', hc'⟩ := h.cell hn
    rw [ha] at ha'
    injection ha' with ha'
    subst ha'
    rw [show a.add 0 = a from rfl] at hc'
    have hd : ∃ d : Int, u' = .int .i64 d := by
      simp only [dcs, List.getElem?_map, Option.map_eq_some_iff] at hu'
      obtain ⟨d, -, hd⟩ := hu'
      exact ⟨d, hd.symm⟩
    obtain ⟨d, rfl⟩ := hd
    unfold World.cell? at hc'
    unfold Bk at hk
    rw [e, hk] at hc'
    cases hs : a.spot.isSome
    · simp only [hs] at hc'
      exact hc _ _ (by simpa using hc')
    · simp [hs] at hc'
  refine ⟨a, ha, hb, fun j v hv => ?_⟩
  rw [← hcell j v hv]
  unfold World.cell?
  rw [Below.heap_setCell w ⟨g, i, none⟩ u (a.add j).block (by rw [add_block]; exact hne)]
theorem no_int2 {x0 x1 : Value} (h0 : ∀ d : Int, x0 ≠ .int .i64 d) (h1 : ∀ d : Int, x1 ≠ .int .i64 d) : ∀ (j : Nat) (d : Int), (#[x0, x1] : Array Value)[j]? ≠ some (.int .i64 d)
  | 0, d => by simpa using h0 d
  | 1, d => by simpa using h1 d
  | j + 2, d => by simp
theorem no_big {b : Bool} {A : Option Addr} {n c : Nat} : ∀ (j : Nat) (d : Int), (#[.bool b, .slice A n c] : Array Value)[j]? ≠ some (.int .i64 d) := no_int2 (fun d h => by cases h) (fun d h => by cases h)
theorem BigN.boxset {w : World} {v : Value} {V : Int} {g i : Nat} {T : TypeId} {cs : Array Value} {u : Value} (h : BigN w v V) (hk : Bk w g T cs) (hc : ∀ (j : Nat) (d : Int), cs[j]? ≠ some (.int .i64 d)) : BigN (w.setCell ⟨g, i, none⟩ u) v V := by
  obtain ⟨A, n, c, h1, h2, h3, h4⟩ := h
  exact ⟨A, n, c, h1, h2, h3, by simpa [World.setCell] using h4.boxset (i := i) (u := u) hk hc⟩
/-- A box filled anew, a number beside it. -/
theorem BigN.box2 {w : World} {v : Value} {V : Int} {g : Nat} {T : TypeId} {b b' : Bool} {A A' : Option Addr} {n c n' c' : Nat} (h : BigN w v V) (hk : Bk w g T #[.bool b, .slice A n c]) : BigN ((w.setCell ⟨g, 0, none⟩ (.bool b')).setCell ⟨g, 1, none⟩ (.slice A' n' c')) v V := by
  have k1 : Bk (w.setCell ⟨g, 0, none⟩ (.bool b')) g T #[.bool b', .slice A n c] := by simpa using hk.set_ 0 (.bool b')
  exact (h.boxset hk no_big).boxset k1 no_big
theorem Rd.drew {w : World} {B k n : Nat} {A : Option Addr} {xs : List Value} (h : Rd w B k A n xs) : Rd w.drew B k A n xs := ⟨h.len, h.at_⟩
theorem bk_after {W w2 : World} {g : Nat} {T : TypeId} {cs : Array Value} (k : Bk W g T cs) (hb : Below W.drew.heap.size W.drew w2) : Bk w2 g T cs := (show Bk W.drew g T cs from k).below hb k.lt
theorem len_le {a b : List Nat} (da : Digs a) (nb : Neat b) (h : dval b ≤ dval a) : b.length ≤ a.length := by
  rcases Nat.lt_or_ge a.length b.length with h1 | h1
  · have := neat_len da nb h1; omega
  · exact h1

set_option maxHeartbeats 2000000 in
theorem add_any' {w : World} {x y : Value} {V U : Int} (hx : BigN w x V) (hy : BigN w y U) (lx : (digs V.natAbs).length ≤ 500) (ly : (digs U.natAbs).length ≤ 500) :
    Calls Tryz.prog 70 #[x, y] w fun e w' => ∃ z, e = .returned z ∧ BigN w' z (V + U) ∧ Below w.heap.size w w' := by
  obtain ⟨A1, n1, c1, rfl, hnc1, hcm1, h1⟩ := hx
  obtain ⟨A2, n2, c2, rfl, hnc2, hcm2, h2⟩ := hy
  have hn1 : n1 ≤ 1000 := by have := h1.dlen; omega
  have hn2 : n2 ≤ 1000 := by have := h2.dlen; omega
  have HS := Lib.hid (show (decide (V < 0) = decide (U < 0) → V + U = sgn (decide (V < 0)) (V.natAbs + U.natAbs)) ∧ (decide (V < 0) ≠ decide (U < 0) → V.natAbs < U.natAbs → V + U = sgn (decide (U < 0)) (U.natAbs - V.natAbs)) ∧ (decide (V < 0) ≠ decide (U < 0) → ¬ V.natAbs < U.natAbs → V + U = sgn (decide (V < 0)) (V.natAbs - U.natAbs)) by
    unfold sgn
    by_cases hV : V < 0 <;> by_cases hU : U < 0 <;> simp [hV, hU] <;> omega)
  have d1 := digs_digs V.natAbs
  have d2 := digs_digs U.natAbs
  have m1 := neat_digs V.natAbs
  have m2 := neat_digs U.natAbs
  have v1 := Lib.hid (dval_digs V.natAbs)
  have v2 := Lib.hid (dval_digs U.natAbs)
  have HL := Lib.hid (less_len (a := digs V.natAbs) (b := digs U.natAbs))
  generalize digs V.natAbs = l1 at *
  generalize digs U.natAbs = l2 at *
  generalize decide (V < 0) = b1 at *
  generalize decide (U < 0) = b2 at *
  generalize V + U = Z at *
  generalize V.natAbs = N1 at *
  generalize U.natAbs = N2 at *
  clear HL lx ly
  have k0 := ((Bk.new w 98 #[.bool b1, .slice A1 n1 c1]).alloc (.cells #[.bool b2, .slice A2 n2 c2] 98)).alloc (.cells #[.bool false, .slice none 0 0] 98)
  have k1 := (Bk.new (w.alloc (.cells #[.bool b1, .slice A1 n1 c1] 98)) 98 #[.bool b2, .slice A2 n2 c2]).alloc (.cells #[.bool false, .slice none 0 0] 98)
  have k2 := Bk.new ((w.alloc (.cells #[.bool b1, .slice A1 n1 c1] 98)).alloc (.cells #[.bool b2, .slice A2 n2 c2] 98)) 98 #[.bool false, .slice none 0 0]
  simp only [World.size_alloc] at k1 k2
  have hb0 := bel2 w (.cells #[.bool b1, .slice A1 n1 c1] 98) (.cells #[.bool b2, .slice A2 n2 c2] 98) (.cells #[.bool false, .slice none 0 0] 98)
  have hw0 := hb0.size
  go_enter Tryz.func70, Tryz.ntmps70
  by_cases hs : b1 = b2
  · subst hs
    have HZ := Lib.hid (HS.out.1 rfl)
    clear HS
    go_wp2_with fail
    generalize ((w.alloc (.cells #[.bool b1, .slice A1 n1 c1] 98)).alloc (.cells #[.bool b1, .slice A2 n2 c2] 98)).alloc (.cells #[.bool false, .slice none 0 0] 98) = W at *
    have c00 := k0.cell 0
    have c01 := k0.cell 1
    have c10 := k1.cell 0
    have c11 := k1.cell 1
    have c20 := k2.cell 0
    have c21 := k2.cell 1
    have z20 := k2.frozen 0
    have z21 := k2.frozen 1
    have HV : Hid (dval l1 + dval l2 = N1 + N2) := Lib.hid (by rw [v1.out, v2.out])
    have hr1 : Rd W.drew W.drew.heap.size 1 A1 n1 (dcs l1) := ((h1.below hb0).mono hw0).drew
    have hr2 : Rd W.drew W.drew.heap.size 1 A2 n2 (dcs l2) := ((h2.below hb0).mono hw0).drew
    have hop := plus_any (c := c1) (c' := c2) hr1 hr2 d1 d2 hn1 hn2
    go_region_with (first | (go_at_call 91; refine (hop).mono ?_; rintro e w2 ⟨v, k, L, rfl, ho, hd, hv, -, hb⟩; obtain ⟨A3, c3, rfl, hnc3, hcm3, hr3⟩ := own_form ho; have p0 := bk_after k0 hb; have p1 := bk_after k1 hb; have p2 := bk_after k2 hb; have x00 := p0.cell 0; have x01 := p0.cell 1; have x10 := p1.cell 0; have x11 := p1.cell 1; have x20 := p2.cell 0; have x21 := p2.cell 1; have y20 := p2.frozen 0; have y21 := p2.frozen 1) | (go_at_call 55; refine (trim_any (b := b1) ⟨A3, k, c3, rfl, hnc3, hcm3, hr3⟩).mono ?_; rintro e w3 ⟨z, rfl, hz, hb3⟩; have hz1 := bigN_of hd (hv.trans HV.out) hz; obtain ⟨A4, n4, c4, rfl, hnc4, hcm4, hr4⟩ := hz; have q2 := p2.below hb3 p2.lt; have x20 := q2.cell 0; have x21 := q2.cell 1; have y20 := q2.frozen 0; have y21 := q2.frozen 1))
    all_goals
      have hb4 : Below w.heap.size w w3 := (hb0.drew.trans (hb.mono (show w.heap.size ≤ W.drew.heap.size from hw0))).trans (hb3.mono (by have := hb.size; have h3 : W.drew.heap.size = W.heap.size := rfl; omega))
      rw [← HZ.out] at hz1
      have hz2 := hz1.box2 (b' := (b1 && !(neat L).isEmpty)) (A' := A4) (n' := n4) (c' := c4) q2
      go_wp2
      refine bodyPost_ret (v := .agg #[.bool (b1 && !(neat L).isEmpty), .slice A4 n4 c4]) (by simp [results, Tryz.results70, go_sem, x20, x21]) rfl ⟨_, rfl, hz2, (hb4.setCell (by simp; omega) _).setCell (by simp; omega) _⟩
  · have hs' : (b1 == b2) = false := by simpa using hs
    have H1 := HS.out.2.1 hs
    have H2 := HS.out.2.2 hs
    clear HS
    go_wp2_with fail
    generalize ((w.alloc (.cells #[.bool b1, .slice A1 n1 c1] 98)).alloc (.cells #[.bool b2, .slice A2 n2 c2] 98)).alloc (.cells #[.bool false, .slice none 0 0] 98) = W at *
    have c00 := k0.cell 0
    have c01 := k0.cell 1
    have c10 := k1.cell 0
    have c11 := k1.cell 1
    have c20 := k2.cell 0
    have c21 := k2.cell 1
    have z20 := k2.frozen 0
    have z21 := k2.frozen 1
    have hr1' : Rd W W.heap.size 1 A1 n1 (dcs l1) := (h1.below hb0).mono hw0
    have hr2' : Rd W W.heap.size 1 A2 n2 (dcs l2) := (h2.below hb0).mono hw0
    refine (less_any (c := c1) (c' := c2) hr1' hr2' d1 d2 m1 m2 hn1 hn2).mono ?_
    rintro e w1 ⟨rfl, hbl⟩
    have HL : Hid (lessL l1 l2 = decide (N1 < N2)) := Lib.hid (by unfold lessL; rw [v1.out, v2.out])
    have e0 := k0.below hbl k0.lt
    have e1 := k1.below hbl k1.lt
    have e2 := k2.below hbl k2.lt
    have f0 := hb0.trans (hbl.mono hw0)
    have g0 := Nat.le_trans hw0 hbl.size
    clear k0 k1 k2 hb0 hw0 c00 c01 c10 c11 c20 c21 z20 z21 hr1' hr2' hbl
    have k0 := e0
    have k1 := e1
    have k2 := e2
    have hb0 := f0
    have hw0 := g0
    clear e0 e1 e2 f0 g0
    have c00 := k0.cell 0
    have c01 := k0.cell 1
    have c10 := k1.cell 0
    have c11 := k1.cell 1
    have c20 := k2.cell 0
    have c21 := k2.cell 1
    have z20 := k2.frozen 0
    have z21 := k2.frozen 1
    rw [HL.out]
    by_cases hlt : N1 < N2
    · have HZ := Lib.hid (H1 hlt)
      have hle : dval l1 ≤ dval l2 := by rw [v1.out, v2.out]; omega
      rw [decide_eq_true hlt]
      clear H1 H2 HL
      go_wp2_with fail
      have HV : Hid (dval l2 - dval l1 = N2 - N1) := Lib.hid (by rw [v1.out, v2.out])
      have hr1 : Rd w1.drew w1.drew.heap.size 1 A1 n1 (dcs l1) := ((h1.below hb0).mono hw0).drew
      have hr2 : Rd w1.drew w1.drew.heap.size 1 A2 n2 (dcs l2) := ((h2.below hb0).mono hw0).drew
      have hop := minus_any (c := c2) (c' := c1) hr2 hr1 d2 d1 hn2 (by rw [hr2.dlen, hr1.dlen]; exact len_le d2 m1 hle) hle
      go_region_with (first | (go_at_call 93; refine (hop).mono ?_; rintro e w2 ⟨v, k, L, rfl, ho, hd, hv, -, hb⟩; obtain ⟨A3, c3, rfl, hnc3, hcm3, hr3⟩ := own_form ho; have p0 := bk_after k0 hb; have p1 := bk_after k1 hb; have p2 := bk_after k2 hb; have x00 := p0.cell 0; have x01 := p0.cell 1; have x10 := p1.cell 0; have x11 := p1.cell 1; have x20 := p2.cell 0; have x21 := p2.cell 1; have y20 := p2.frozen 0; have y21 := p2.frozen 1) | (go_at_call 55; refine (trim_any (b := b2) ⟨A3, k, c3, rfl, hnc3, hcm3, hr3⟩).mono ?_; rintro e w3 ⟨z, rfl, hz, hb3⟩; have hz1 := bigN_of hd (hv.trans HV.out) hz; obtain ⟨A4, n4, c4, rfl, hnc4, hcm4, hr4⟩ := hz; have q2 := p2.below hb3 p2.lt; have x20 := q2.cell 0; have x21 := q2.cell 1; have y20 := q2.frozen 0; have y21 := q2.frozen 1))
      all_goals
        have hb4 : Below w.heap.size w w3 := (hb0.drew.trans (hb.mono (show w.heap.size ≤ w1.drew.heap.size from hw0))).trans (hb3.mono (by have := hb.size; have h3 : w1.drew.heap.size = w1.heap.size := rfl; omega))
        rw [← HZ.out] at hz1
        have hz2 := hz1.box2 (b' := (b2 && !(neat L).isEmpty)) (A' := A4) (n' := n4) (c' := c4) q2
        go_wp2
        refine bodyPost_ret (v := .agg #[.bool (b2 && !(neat L).isEmpty), .slice A4 n4 c4]) (by simp [results, Tryz.results70, go_sem, x20, x21]) rfl ⟨_, rfl, hz2, (hb4.setCell (by simp; omega) _).setCell (by simp; omega) _⟩
    · have HZ := Lib.hid (H2 hlt)
      have hle : dval l2 ≤ dval l1 := by rw [v1.out, v2.out]; omega
      rw [decide_eq_false hlt]
      clear H1 H2 HL
      go_wp2_with fail
      have HV : Hid (dval l1 - dval l2 = N1 - N2) := Lib.hid (by rw [v1.out, v2.out])
      have hr1 : Rd w1.drew w1.drew.heap.size 1 A1 n1 (dcs l1) := ((h1.below hb0).mono hw0).drew
      have hr2 : Rd w1.drew w1.drew.heap.size 1 A2 n2 (dcs l2) := ((h2.below hb0).mono hw0).drew
      have hop := minus_any (c := c1) (c' := c2) hr1 hr2 d1 d2 hn1 (by rw [hr2.dlen, hr1.dlen]; exact len_le d1 m2 hle) hle
      go_region_with (first | (go_at_call 93; refine (hop).mono ?_; rintro e w2 ⟨v, k, L, rfl, ho, hd, hv, -, hb⟩; obtain ⟨A3, c3, rfl, hnc3, hcm3, hr3⟩ := own_form ho; have p0 := bk_after k0 hb; have p1 := bk_after k1 hb; have p2 := bk_after k2 hb; have x00 := p0.cell 0; have x01 := p0.cell 1; have x10 := p1.cell 0; have x11 := p1.cell 1; have x20 := p2.cell 0; have x21 := p2.cell 1; have y20 := p2.frozen 0; have y21 := p2.frozen 1) | (go_at_call 55; refine (trim_any (b := b1) ⟨A3, k, c3, rfl, hnc3, hcm3, hr3⟩).mono ?_; rintro e w3 ⟨z, rfl, hz, hb3⟩; have hz1 := bigN_of hd (hv.trans HV.out) hz; obtain ⟨A4, n4, c4, rfl, hnc4, hcm4, hr4⟩ := hz; have q2 := p2.below hb3 p2.lt; have x20 := q2.cell 0; have x21 := q2.cell 1; have y20 := q2.frozen 0; have y21 := q2.frozen 1))
      all_goals
        have hb4 : Below w.heap.size w w3 := (hb0.drew.trans (hb.mono (show w.heap.size ≤ w1.drew.heap.size from hw0))).trans (hb3.mono (by have := hb.size; have h3 : w1.drew.heap.size = w1.heap.size := rfl; omega))
        rw [← HZ.out] at hz1
        have hz2 := hz1.box2 (b' := (b1 && !(neat L).isEmpty)) (A' := A4) (n' := n4) (c' := c4) q2
        go_wp2
        refine bodyPost_ret (v := .agg #[.bool (b1 && !(neat L).isEmpty), .slice A4 n4 c4]) (by simp [results, Tryz.results70, go_sem, x20, x21]) rfl ⟨_, rfl, hz2, (hb4.setCell (by simp; omega) _).setCell (by simp; omega) _⟩
end Go.Proofs.YtmbjmgmnicacpaaGreatDoor
