/- The reference's over by its contract: the quotient's digits, whether the rest is half or more, whether there is one. Condition: no more than two hundred digits, the divisor above 0. -/
import Derived.Test.YtgepipapppdhfaaGreatDoorOver0
namespace Go.Proofs.YtgepipapppdhfaaGreatDoor
open Go.RowKit

theorem over_one {NA NB j : Nat} (hB : 0 < NB) {q r T : Nat} (hT : T = NA / 10 ^ j % 10 + 10 * (NA / 10 ^ (j + 1) % NB)) (hq : T = q * NB + r) (hr : r < NB) :
    r = NA / 10 ^ j % NB ∧ q + 10 * (NA / 10 ^ (j + 1) / NB) = NA / 10 ^ j / NB ∧ q < 10 := by
  have h1 : NA / 10 ^ (j + 1) = NA / 10 ^ j / 10 := by rw [Nat.pow_succ, Nat.div_div_eq_div_mul]
  rw [h1] at hT ⊢
  generalize NA / 10 ^ j = X at *
  have h2 := Nat.div_add_mod (X / 10) NB
  have h3 := Nat.mod_lt (X / 10) hB
  rw [hT] at hq
  obtain ⟨h4, h5⟩ := over_step (A := X / 10) (x := X % 10) (b := NB) (q := X / 10 / NB) (r := X / 10 % NB) (n := q) (s := r) (by rw [Nat.mul_comm]; exact h2.symm) h3 hq (Nat.mod_lt _ (by omega))
  have h6 : X % 10 + 10 * (X / 10) = X := by omega
  rw [h6] at h4
  obtain ⟨h7, h8⟩ := over_div h4 hr
  exact ⟨h8, h7, h5⟩

set_option maxRecDepth 20000 in
set_option maxHeartbeats 2000000 in
theorem bOver_any {w : World} {n c n' c' : Nat} {A A' : Option Addr} {NA NB : Nat} (ha : Rd w w.heap.size 1 A n (dcs (digs NA))) (hb : Rd w w.heap.size 1 A' n' (dcs (digs NB))) (hB : 0 < NB) (hn : n ≤ 200) (hn' : n' ≤ 200) :
    Calls Tryz.prog 42 #[.slice A n c, .slice A' n' c'] w fun e w' => ∃ A1 n1 c1, e = .returned (.tuple #[.slice A1 n1 c1, .bool (decide (NB ≤ NA % NB + NA % NB)), .bool (decide (0 < NA % NB))]) ∧ n1 ≤ c1 ∧ c1 ≤ maxLen ∧ Rd w' w'.heap.size 1 A1 n1 (dcs (digs (NA / NB))) ∧ Below w.heap.size w w' := by
  have HA := Lib.hid ha.dlen
  have HB := Lib.hid hb.dlen
  have HBp := Lib.hid hB
  go_enter Tryz.func42, Tryz.ntmps42
  go_wp2
  go_loopw [7, 8, 9] (fun qv rv iv wr => ∃ (j : Nat) (Aq : Option Addr) (nq cq : Nat) (Ar : Option Addr) (nr cr : Nat) (Q : List Nat), qv = .slice Aq nq cq ∧ rv = .slice Ar nr cr ∧ iv = .int .i64 ((j : Int) - 1) ∧ j ≤ n ∧ nq + j = n ∧ nq ≤ cq ∧ cq ≤ maxLen ∧ nr ≤ cr ∧ cr ≤ maxLen ∧ Rd wr wr.heap.size 1 Aq nq (dcs Q) ∧ Rd wr wr.heap.size 1 Ar nr (dcs (digs (NA / 10 ^ j % NB))) ∧ Below w.heap.size w wr ∧ Hid (Digs Q ∧ dval Q = NA / 10 ^ j / NB)) (fun _ _ iv _ => (intOf iv + 1).toNat)
  case atStart =>
    have h0 : NA / 10 ^ n = 0 := Nat.div_eq_of_lt (digs_len.1 (by rw [← HA.out]; exact Nat.le_refl _))
    exact ⟨n, none, 0, 0, none, 0, 0, [], rfl, rfl, by go_num, Nat.le_refl _, by omega, Nat.le_refl _, by unfold maxLen; omega, Nat.le_refl _, by unfold maxLen; omega, Rd.nil _ _ _ _, by rw [h0, Nat.zero_mod, digs_zero]; exact Rd.nil _ _ _ _, Below.refl _ _, Lib.hid ⟨(fun d hd => by cases hd), by rw [h0, Nat.zero_div]; rfl⟩⟩
  case round =>
    obtain ⟨j, Aq, nq, cq, Ar, nr, cr, Q, rfl, rfl, rfl, hj, hqj, hqc, hqm, hrc, hrm, hQ, hR, hbel, HQ⟩ := hrel
    have hsz := hbel.size
    cases j with
    | zero =>
      rw [Nat.pow_zero, Nat.div_one] at hR HQ
      have hnr : nr ≤ 200 := by
        have h1 := hR.dlen
        have h2 : (digs (NA % NB)).length ≤ (digs NB).length := len_le' (Nat.le_of_lt (Nat.mod_lt _ HBp.out))
        rw [← HB.out] at h2
        omega
      have HRB := Lib.hid (Nat.mod_lt NA HBp.out)
      have hQd := HQ.out
      generalize hRR : NA % NB = R at *
      generalize hQQ : NA / NB = QQ at *
      have HRR := Lib.hid hRR
      have HQQ := Lib.hid hQQ
      clear hRR hQQ HQ
      go_wp2_with fail
      refine (trim_any (b := false) (l := Q) ⟨Aq, nq, cq, rfl, hqc, hqm, hQ⟩).mono ?_
      rintro e w2 ⟨y, rfl, hy, hb2⟩
      obtain ⟨A4, n4, c4, rfl, hm4, hc4, h4⟩ := hy
      rw [neat_eq hQd.1, hQd.2] at h4
      have hfl : (Instr.field 51 (.agg #[.bool false, .slice A4 n4 c4]) 1).run Tryz.prog w2 = .ok (.slice A4 n4 c4) w2 := rfl
      have hR2 := (hR.below hb2).mono hb2.size
      have hB2 := hbel.trans (hb2.mono hsz)
      go_wp2_with fail
      refine (plusN_any (c := cr) (c' := cr) hR2 hR2 (digs_digs _) (digs_digs _) (by omega) (by omega)).mono ?_
      rintro e w3 ⟨v3, k3, L3, rfl, o3, hd3, hv3, hk3, hkk, hb3⟩
      have hk3l := Lib.hid (own_len o3)
      obtain ⟨A3, c3, rfl, hnc3, hcm3, hr3⟩ := own_form o3
      rw [dval_digs] at hv3 hkk
      have hnL : Neat L3 := by
        refine neat_of hd3 ?_
        have hk3l' := hk3l.out
        rcases Nat.eq_zero_or_pos L3.length with h0 | h0
        · exact .inl (List.eq_nil_of_length_eq_zero h0)
        · right
          rw [hv3, ← hk3l.out]
          have hz : k3 ≤ nr → 10 ^ (k3 - 1) ≤ R + R := by
            intro h5
            have h6 := hR.dlen
            have h7 : digs R ≠ [] := fun e => by rw [e] at h6; simp at h6; omega
            have h8 := (neat_digs R).ge h7
            rw [dval_digs, ← h6] at h8
            have h9 : 10 ^ (k3 - 1) ≤ 10 ^ (nr - 1) := Nat.pow_le_pow_right (by omega) (by omega)
            omega
          rcases hkk with h5 | h5 | h5
          · exact hz h5
          · exact hz h5
          · exact h5
      have hk3b : k3 ≤ 300 := by
        have h1 := digs_dval hd3 hnL
        rw [hv3] at h1
        have h2 : (digs (R + R)).length ≤ (digs NB).length + 1 := by
          refine digs_len.2 ?_
          have h3 := dval_lt (digs_digs NB)
          rw [dval_digs] at h3
          rw [Nat.pow_succ]
          have := HRB.out
          omega
        rw [h1, ← hk3l.out, ← HB.out] at h2
        omega
      have hB3 := hB2.trans (hb3.mono hB2.size)
      have hbB := (hb.below hB3).mono hB3.size
      have HLS := Lib.hid (show lessL L3 (digs NB) = decide (R + R < NB) by unfold lessL; rw [dval_digs, hv3])
      go_wp2_with fail
      refine (less_any (c := c3) (c' := c') hr3 hbB hd3 (digs_digs _) hnL (neat_digs _) (by omega) (by omega)).mono ?_
      rintro e w4 ⟨rfl, hb4⟩
      rw [HLS.out]
      have hB4 := hB3.trans (hb4.mono hB3.size)
      have hb24 : Below w2.heap.size w2 w4 := hb3.trans (hb4.mono hb3.size)
      have hfin := (h4.below hb24).mono hb24.size
      have HL2 := Lib.hid (show decide (0 < nr) = decide (0 < R) by
        have h6 := hR.dlen
        rw [decide_eq_decide]
        constructor
        · intro h7
          rcases Nat.eq_zero_or_pos R with h8 | h8
          · rw [h8, digs_zero] at h6; simp at h6; omega
          · exact h8
        · intro h7
          rw [digs_pos h7] at h6
          simp at h6; omega)
      clear hkk hnL hv3 hd3 HLS hQd hk3l
      by_cases hless : R + R < NB
      · rw [decide_eq_true hless]
        have HE := Lib.hid (show decide (NB ≤ R + R) = false from decide_eq_false (by omega))
        clear hless
        go_wp2
        go_ret3
        refine ⟨A4, n4, c4, ?_, hm4, hc4, by rw [HQQ.out]; exact hfin, hB4⟩
        rw [HRR.out, HE.out, ← HL2.out]
        rfl
      · rw [decide_eq_false hless]
        have HE := Lib.hid (show decide (NB ≤ R + R) = true from decide_eq_true (by omega))
        clear hless
        go_wp2
        go_ret3
        refine ⟨A4, n4, c4, ?_, hm4, hc4, by rw [HQQ.out]; exact hfin, hB4⟩
        rw [HRR.out, HE.out, ← HL2.out]
        rfl
    | succ j =>
      rw [show (((j + 1 : Nat) : Int) - 1) = (j : Int) by omega]
      obtain ⟨pa, rfl, hpa, hc⟩ := (ha.belowMono hbel (Nat.le_refl _)).digAt (show j < n by omega)
      rw [digs_at'] at hc
      have hd9 : NA / 10 ^ j % 10 < 10 := Nat.mod_lt _ (by omega)
      have hnr : nr ≤ 200 := by
        have h1 := hR.dlen
        have h2 : (digs (NA / 10 ^ (j + 1) % NB)).length ≤ (digs NB).length := len_le' (Nat.le_of_lt (Nat.mod_lt _ HBp.out))
        rw [← HB.out] at h2
        omega
      have HO := Lib.hid (fun q r T => over_one (NA := NA) (j := j) HBp.out (q := q) (r := r) (T := T))
      have hR2 := hR
      generalize hdd : NA / 10 ^ j % 10 = d at *
      generalize hRR : NA / 10 ^ (j + 1) % NB = R at *
      clear hR
      go_wp2_with (at_builtin; refine wpList_app rowInts rfl (.tmp 22) (.tmp 23) rfl rfl rfl (own_fresh (base := w.heap.size) hsz) (hR2.below ((Below.refl _ _).alloc (Nat.le_refl _) _)) (dcs_one _) ?_ ?_ ?_ ?_)
      · unfold maxLen; omega
      · omega
      · simp; omega
      intro v2 w2 o2 g2 b2
      have b2' := hbel.trans (((Below.refl w.heap.size wr).alloc hsz _).trans b2)
      have bq : Below wr.heap.size wr w2 := g2_below g2
      have o3 : w2.ownsRow w.heap.size 3 1 v2 (1 + nr) (dcs (d :: digs R)) := o2
      obtain ⟨A3, c3, rfl, hnc3, hcm3, hr3⟩ := own_form o3
      clear o2 o3 b2
      go_wp2_with fail
      refine (trim_any (b := false) (l := d :: digs R) ⟨A3, 1 + nr, c3, rfl, hnc3, hcm3, hr3⟩).mono ?_
      rintro e w3 ⟨y, rfl, hy, hb3⟩
      obtain ⟨A4, n4, c4, rfl, hm4, hc4, h4⟩ := hy
      have hfl : (Instr.field 51 (.agg #[.bool false, .slice A4 n4 c4]) 1).run Tryz.prog w3 = .ok (.slice A4 n4 c4) w3 := rfl
      have hb4 := b2'.trans (hb3.mono b2'.size)
      have hQ4 : Rd w3 w3.heap.size 1 Aq nq (dcs Q) := (((hQ.below bq).mono bq.size).below hb3).mono hb3.size
      have h4' := h4
      rw [neat_push hd9] at h4'
      have hRB : R < NB := by rw [← hRR]; exact Nat.mod_lt _ HBp.out
      obtain ⟨T, hT⟩ : ∃ T, T = d + 10 * R := ⟨_, rfl⟩
      have HT := Lib.hid (show T < 10 * NB by omega)
      rw [← hT] at h4'
      have hn4 : n4 ≤ 201 := by
        have h1 := h4'.dlen
        have h2 : (digs T).length ≤ (digs NB).length + 1 := by
          refine digs_len.2 ?_
          have h3 := dval_lt (digs_digs NB)
          rw [dval_digs] at h3
          rw [Nat.pow_succ]
          have := HT.out
          omega
        rw [← HB.out] at h2
        omega
      have hbB := (hb.below hb4).mono hb4.size
      have HO2 := Lib.hid (fun q r h1 h2 => HO.out q r T hT h1 h2)
      clear HO hdd hRR hT hRB hd9 hQ hR2 hc g2 bq b2' h4
      go_wp2
      go_loopw [8, 10] (fun rv nv w4 => ∃ (q : Nat) (Ar : Option Addr) (nr cr r : Nat), rv = .slice Ar nr cr ∧ nv = .int .i64 (q : Nat) ∧ nr ≤ 201 ∧ nr ≤ cr ∧ cr ≤ maxLen ∧ Rd w4 w4.heap.size 1 Ar nr (dcs (digs r)) ∧ Below w3.heap.size w3 w4 ∧ q < 10 ∧ Hid (T = q * NB + r)) (fun _ nv _ => 10 - (intOf nv).toNat)
      case atStart => exact ⟨0, A4, n4, c4, T, rfl, rfl, hn4, hm4, hc4, h4', Below.refl _ _, by omega, Lib.hid (by omega)⟩
      case round =>
        obtain ⟨q, A5, n5, c5, r, rfl, rfl, h5n, h5c, h5m, h5, hb5, hq10, HTq⟩ := hrel
        have hbB5 := (hbB.below hb5).mono hb5.size
        have HLS := Lib.hid (show lessL (digs r) (digs NB) = decide (r < NB) by unfold lessL; rw [dval_digs, dval_digs])
        go_wp2_with fail
        refine (less_any (c := c5) (c' := c') h5 hbB5 (digs_digs _) (digs_digs _) (neat_digs _) (neat_digs _) (by omega) (by omega)).mono ?_
        rintro e w6 ⟨rfl, hb6⟩
        rw [HLS.out]
        have hb56 := hb5.trans (hb6.mono hb5.size)
        by_cases hlt : r < NB
        · rw [decide_eq_true hlt]
          have HR := Lib.hid (HO2.out q r HTq.out hlt)
          have hQ6 := ((hQ4.below hb56).mono hb56.size)
          have h6 := (h5.below hb6).mono hb6.size
          have hb46 := hb4.trans (hb56.mono hb4.size)
          have hs6 := hb46.size
          clear HLS hlt HTq HT HO2
          go_wp2_with (at_builtin; refine wpList_app rowInts rfl (.tmp 41) (.tmp 42) rfl rfl rfl (own_fresh (base := w.heap.size) hs6) (hQ6.below ((Below.refl _ _).alloc (Nat.le_refl _) _)) (dcs_one _) ?_ ?_ ?_ ?_)
          · unfold maxLen; omega
          · omega
          · simp; omega
          intro v7 w7 o7 g7 b7
          have b67 : Below w6.heap.size w6 w7 := g2_below g7
          have o8 : w7.ownsRow w.heap.size 3 1 v7 (1 + nq) (dcs (q :: Q)) := o7
          obtain ⟨A8, c8, rfl, hnc8, hcm8, hr8⟩ := own_form o8
          have h7 := (h6.below b67).mono b67.size
          have hb7 := hb46.trans (b67.mono hb46.size)
          have HQ2 := Lib.hid (show Digs (q :: Q) ∧ dval (q :: Q) = NA / 10 ^ j / NB from ⟨fun x hx => by
            rcases List.mem_cons.1 hx with rfl | hx
            · exact HR.out.2.2
            · exact HQ.out.1 x hx, by rw [← HR.out.2.1, ← HQ.out.2]; rfl⟩)
          rw [HR.out.1] at h7
          clear o7 o8 g7 b7
          go_wp2
          go_roundw
          case rel => exact ⟨j, A8, 1 + nq, c8, A5, n5, c5, q :: Q, rfl, rfl, by go_num, by omega, by omega, hnc8, hcm8, h5c, h5m, hr8, h7, hb7, HQ2⟩
          case measure => simp [intOf]
        · rw [decide_eq_false hlt]
          have h6 := (h5.below hb6).mono hb6.size
          have hbB6 := (hbB5.below hb6).mono hb6.size
          have HTq2 := Lib.hid (show T = (q + 1) * NB + (r - NB) by have := HTq.out; rw [Nat.add_mul]; omega)
          have hq2 : q + 1 < 10 := by
            have h1 := HTq2.out
            have h2 := HT.out
            refine Nat.lt_of_mul_lt_mul_right (a := NB) ?_
            omega
          go_wp2_with fail
          refine (minus_any (c := c5) (c' := c') h6 hbB6 (digs_digs _) (digs_digs _) (by omega) (by rw [h6.dlen, hbB6.dlen]; exact len_le' (by omega)) (by rw [dval_digs, dval_digs]; omega)).mono ?_
          rintro e w7 ⟨v7, k7, L7, rfl, o7, hd7, hv7, hk7, hb7⟩
          obtain ⟨A7, c7, rfl, hnc7, hcm7, hr7⟩ := own_form o7
          rw [dval_digs, dval_digs] at hv7
          go_wp2_with fail
          refine (trim_any (b := false) (l := L7) ⟨A7, k7, c7, rfl, hnc7, hcm7, hr7⟩).mono ?_
          rintro e w8 ⟨y8, rfl, hy8, hb8⟩
          obtain ⟨A9, n9, c9, rfl, hm9, hc9, h9⟩ := hy8
          have hfl2 : (Instr.field 51 (.agg #[.bool false, .slice A9 n9 c9]) 1).run Tryz.prog w8 = .ok (.slice A9 n9 c9) w8 := rfl
          have h9' := h9
          rw [neat_eq hd7, hv7] at h9'
          have hn9 : n9 ≤ 201 := by
            have h1 := h9'.dlen
            have h2 := h5.dlen
            have h3 : (digs (r - NB)).length ≤ (digs r).length := len_le' (by omega)
            omega
          have hb58 := (hb56.trans (hb7.mono hb56.size)).trans (hb8.mono (Nat.le_trans hb56.size hb7.size))
          clear hlt HTq HLS
          go_wp2
          go_roundw
          case rel => exact ⟨q + 1, A9, n9, c9, r - NB, rfl, by go_num, hn9, hm9, hc9, h9', hb58, hq2, HTq2⟩
          case measure => simp [intOf]; omega
end Go.Proofs.YtgepipapppdhfaaGreatDoor
