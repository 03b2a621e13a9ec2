/- The reference's small by its contract. Condition: no more than five hundred digits, a thousand places. -/
import Derived.Test.YtmbjmgmnicacpaaGreatDoorRow7
import Derived.Test.YtmbjmgmnicacpaaGreatDoorRow8a
namespace Go.Proofs.YtmbjmgmnicacpaaGreatDoor
open Go.RowKit

theorem Rd.box2 {w : World} {m g : Nat} {T : TypeId} {b b' : Bool} {A A' A0 : Option Addr} {n c n' c' : Nat} {l : List Nat} (h : Rd w w.heap.size 1 A0 m (dcs l)) (hk : Bk w g T #[.bool b, .slice A n c]) : Rd ((w.setCell ⟨g, 0, none⟩ (.bool b')).setCell ⟨g, 1, none⟩ (.slice A' n' c')) ((w.setCell ⟨g, 0, none⟩ (.bool b')).setCell ⟨g, 1, none⟩ (.slice A' n' c')).heap.size 1 A0 m (dcs l) := by
  have k1 : Bk (w.setCell ⟨g, 0, none⟩ (.bool b')) g T #[.bool b', .slice A n c] := by simpa using hk.set_ 0 (.bool b')
  have := (h.boxset (i := 0) (u := .bool b') hk no_big).boxset (i := 1) (u := .slice A' n' c') k1 no_big
  simpa [World.setCell] using this
theorem strip_pop {s N : Nat} (h : N % 10 = 0) : strip (s + 1) N = strip s (N / 10) := by rw [strip, if_pos h]
theorem strip_end {s N : Nat} (h : s = 0 ∨ N % 10 ≠ 0) : strip s N = (N, s) := by
  cases s with
  | zero => rfl
  | succ s => rw [strip, if_neg (by omega)]
theorem digs_at (N i : Nat) : (digs N).getD i 0 = N / 10 ^ i % 10 := by
  have h := digs_drop N i
  rcases Nat.lt_or_ge i (digs N).length with hi | hi
  · rw [List.drop_eq_getElem_cons hi] at h
    simp only [List.getD, List.getElem?_eq_getElem hi, Option.getD_some]
    rcases Nat.eq_zero_or_pos (N / 10 ^ i) with h0 | h0
    · rw [h0, digs_zero] at h; cases h
    · rw [digs_pos h0] at h
      exact (List.cons.inj h).1
  · rw [List.drop_of_length_le hi] at h
    have := digs_nil.1 h.symm
    rw [this]
    simp [List.getD, List.getElem?_eq_none hi]
theorem Rd.tail1 {w : World} {B n : Nat} {a : Addr} {N : Nat} (h : Rd w B 1 (some a) (n + 1) (dcs (digs N))) : Rd w B 1 (some (a.add 1)) n (dcs (digs (N / 10))) := by
  have hl := h.dlen
  have hN : 0 < N := by
    rcases Nat.eq_zero_or_pos N with rfl | h0
    · rw [digs_zero] at hl; simp at hl
    · exact h0
  rw [digs_pos hN] at h hl
  refine ⟨by rw [dcs_len]; simp at hl; omega, fun h0 => ?_⟩
  obtain ⟨a', ha, hb, hc⟩ := h.at_ (by omega)
  injection ha with ha
  subst ha
  refine ⟨_, rfl, by rw [add_block]; exact hb, fun j u hu => ?_⟩
  rw [add_add, Nat.add_comm 1 j]
  exact hc (j + 1) u (by simpa [dcs] using hu)

set_option maxHeartbeats 2000000 in
theorem small_any {w : World} {x : Value} {V : Int} {s : Nat} (hx : BigN w x V) (hl : (digs V.natAbs).length ≤ 500) (hs : s ≤ 1000) :
    Calls Tryz.prog 56 #[x, .int .i64 (s : Nat)] w fun e w' => e = .returned (.tuple #[.agg #[.int .i64 (tl V s).m, .int .i64 ((tl V s).s : Nat)], .int .i64 ((tl V s).e : Nat)]) ∧ Below w.heap.size w w' := by
  obtain ⟨A, n, c, rfl, hnc, hcm, h⟩ := hx
  have hn5 : n ≤ 500 := by have := h.dlen; omega
  have HT : Hid (tl V s = tlb (decide (V < 0)) V.natAbs s) := Lib.hid rfl
  generalize decide (V < 0) = b at *
  generalize V.natAbs = N at *
  clear hl
  have k0 := (Bk.new w 98 #[.bool b, .slice A n c]).alloc (.cells #[.int .i64 0, .int .i64 0] 27)
  have k1 := Bk.new (w.alloc (.cells #[.bool b, .slice A n c] 98)) 27 #[.int .i64 0, .int .i64 0]
  simp only [World.size_alloc] at k1
  have hb0 := bel1 w (.cells #[.bool b, .slice A n c] 98) (.cells #[.int .i64 0, .int .i64 0] 27)
  have h' := (h.below hb0).mono hb0.size
  go_enter Tryz.func56, Tryz.ntmps56
  go_wp2
  go_loopw [1] (fun ss wr => ∃ (s' N' n' c' : Nat) (A' : Option Addr), ss = .int .i64 (s' : Nat) ∧ s' ≤ 1000 ∧ n' ≤ 500 ∧ n' ≤ c' ∧ c' ≤ maxLen ∧ Bk wr w.heap.size 98 #[.bool b, .slice A' n' c'] ∧ Bk wr (w.heap.size + 1) 27 #[.int .i64 0, .int .i64 0] ∧ Below w.heap.size w wr ∧ Rd wr wr.heap.size 1 A' n' (dcs (digs N')) ∧ Hid (strip s' N' = strip s N)) (fun ss _ => (intOf ss).toNat)
  case atStart => exact ⟨s, N, n, c, A, rfl, hs, hn5, hnc, hcm, k0, k1, hb0, h', Lib.hid rfl⟩
  case round =>
    clear k0 k1 hb0 h' h hnc hcm hn5
    obtain ⟨s', N', n', c', A', rfl, hs', hn', hnc, hcm, k0, k1, hbel, hr, HS⟩ := hrel
    have hsz := hbel.size
    have c0 := k0.cell 0
    have c1 := k0.cell 1
    have z0 := k0.frozen 0
    have z1 := k0.frozen 1
    have r0 := k1.cell 0
    have r1 := k1.cell 1
    have y0 := k1.frozen 0
    have y1 := k1.frozen 1
    have HN := Lib.hid hr.dlen
    by_cases hmore : 0 < s' ∧ N' % 10 = 0
    · obtain ⟨s1, rfl⟩ : ∃ s1, s' = s1 + 1 := ⟨s' - 1, by omega⟩
      have HS2 := Lib.hid ((strip_pop hmore.2).symm.trans HS.out)
      cases n' with
      | zero =>
        have hN0 : N' = 0 := digs_nil.1 (List.eq_nil_of_length_eq_zero HN.out.symm)
        subst hN0
        clear hmore
        go_wp2
        go_roundw
        case rel => exact ⟨s1, 0, 0, c', A', by go_num, by omega, by omega, Nat.zero_le _, hcm, k0, k1, hbel, hr, HS2⟩
        case measure => simp [intOf]
      | succ n' =>
        obtain ⟨a, rfl, ha, hc⟩ := hr.digAt (Nat.succ_pos n')
        rw [digs_at, Nat.pow_zero, Nat.div_one, hmore.2] at hc
        have hr2 := hr.tail1
        clear hmore
        have hn1 : (((n' : Nat) : Int) + 1 == 0) = false := by simp; omega
        have hc' : wr.cell? a = some (.int .i64 0) := hc
        clear hc
        go_wp2_with fail
        by_cases hcap : c' = 1
        · subst hcap
          obtain rfl : n' = 0 := by omega
          have hr3 : Rd wr wr.heap.size 1 (some a) 0 (dcs (digs (N' / 10))) := by
            have := hr2.dlen
            rw [show digs (N' / 10) = [] from List.eq_nil_of_length_eq_zero this.symm]
            exact Rd.nil _ _ _ _
          clear hr2
          go_region
          go_wp2
          go_roundw
          case rel =>
            refine ⟨s1, N' / 10, 0, 0, some a, by go_num, by omega, by omega, Nat.le_refl _, by unfold maxLen; omega, ?_, ?_, ((hbel.setCell (by simp) _).setCell (by simp) _).drew, ?_, HS2⟩
            · have e : Bk ((wr.setCell ⟨w.heap.size, 0, none⟩ (.bool b)).setCell ⟨w.heap.size, 1, none⟩ (.slice (some a) 0 0)) w.heap.size 98 #[.bool b, .slice (some a) 0 0] := by
                simpa using (k0.set_ 0 (.bool b)).set_ 1 (.slice (some a) 0 0)
              exact e
            · exact (k1.other (by omega)).other (by omega)
            · exact (hr3.box2 k0).drew
          case measure => simp [intOf]
        · go_region
          go_wp2
          go_roundw
          case rel =>
            refine ⟨s1, N' / 10, n', c' - 1, some (a.add 1), by go_num, by omega, by omega, by omega, by omega, ?_, ?_, ((hbel.setCell (by simp) _).setCell (by simp) _).drew, ?_, HS2⟩
            · have e : Bk ((wr.setCell ⟨w.heap.size, 0, none⟩ (.bool b)).setCell ⟨w.heap.size, 1, none⟩ (.slice (some (a.add 1)) n' (c' - 1))) w.heap.size 98 #[.bool b, .slice (some (a.add 1)) n' (c' - 1)] := by
                simpa using (k0.set_ 0 (.bool b)).set_ 1 (.slice (some (a.add 1)) n' (c' - 1))
              exact e
            · exact (k1.other (by omega)).other (by omega)
            · exact (hr2.box2 k0).drew
          case measure => simp [intOf]
    · have HE := Lib.hid (show strip s N = (N', s') from HS.out.symm.trans (strip_end (by omega)))
      by_cases hs0 : s' = 0
      · subst hs0
        by_cases hbig : 19 < n'
        · have hbg : (19 : Int) < (n' : Int) := by omega
          have HV : Hid (tl V s = ⟨0, 0, 8⟩) := Lib.hid (by
            rw [HT.out]
            unfold tlb
            rw [HE.out]
            have h1 : ¬ N' < 10 ^ 19 := fun h => by have := digs_len.2 h; rw [← HN.out] at this; omega
            simp only
            rw [if_neg (by unfold most; cases b <;> simp <;> omega)])
          go_wp2
          refine bodyPost_ret (v := .tuple #[.agg #[.int .i64 0, .int .i64 0], .int .i64 8]) (by simp [results, Tryz.results56, go_sem, r0, r1]) rfl ⟨?_, (hbel.setCell (by simp) _).setCell (by simp) _⟩
          rw [HV.out]
          rfl
        · have hN19 : N' < 10000000000000000000 := by
            have := digs_len.1 (show (digs N').length ≤ 19 by rw [← HN.out]; omega)
            omega
          have hbg : ¬ (19 : Int) < (n' : Int) := by omega
          have HZ := Lib.hid (show N' / 10 ^ n' = 0 by
            have := digs_len.1 (show (digs N').length ≤ n' by rw [← HN.out]; exact Nat.le_refl _)
            exact Nat.div_eq_of_lt this)
          have HV : Hid (tl V s = if N' ≤ most b then ⟨sgn b N', 0, 0⟩ else ⟨0, 0, 8⟩) := Lib.hid (by
            rw [HT.out]
            unfold tlb
            rw [HE.out])
          clear HE
          go_wp2
          go_loop [6, 7] (fun uu ii => ∃ (j q : Nat), uu = .int .u64 (q : Nat) ∧ ii = .int .i64 ((j : Int) - 1) ∧ j ≤ n' ∧ Hid (q = N' / 10 ^ j)) (fun _ ii => (intOf ii + 1).toNat)
          case atStart => exact ⟨n', 0, rfl, by go_num, Nat.le_refl _, Lib.hid HZ.out.symm⟩
          case round =>
            obtain ⟨j, q, rfl, rfl, hj, HQ⟩ := hrel
            cases j with
            | zero =>
              have hq : q = N' := by rw [HQ.out]; simp
              subst hq
              cases b
              · by_cases hov : q ≤ 9223372036854775807
                · have HR := Lib.hid (show tl V s = ⟨(q : Int), 0, 0⟩ by rw [HV.out, if_pos (by simpa [most] using hov)]; rfl)
                  have hov' : ¬ (9223372036854775807 : Int) < (q : Int) := by omega
                  clear HQ
                  go_wp2
                  refine bodyPost_ret (v := .tuple #[.agg #[.int .i64 (q : Nat), .int .i64 ((0 : Nat) : Int)], .int .i64 0]) (by simp [results, Tryz.results56, go_sem, r0, r1]) rfl ⟨?_, (hbel.setCell (by simp) _).setCell (by simp) _⟩
                  rw [HR.out]
                  rfl
                · have HR := Lib.hid (show tl V s = ⟨0, 0, 8⟩ by rw [HV.out, if_neg (by simpa [most] using hov)])
                  have hov' : (9223372036854775807 : Int) < (q : Int) := by omega
                  clear HQ
                  go_wp2
                  refine bodyPost_ret (v := .tuple #[.agg #[.int .i64 0, .int .i64 0], .int .i64 8]) (by simp [results, Tryz.results56, go_sem, r0, r1]) rfl ⟨?_, (hbel.setCell (by simp) _).setCell (by simp) _⟩
                  rw [HR.out]
                  rfl
              · by_cases hov : q ≤ 9223372036854775808
                · have HR := Lib.hid (show tl V s = ⟨-(q : Int), 0, 0⟩ by rw [HV.out, if_pos (by simpa [most] using hov)]; rfl)
                  have hov' : ¬ (9223372036854775808 : Int) < (q : Int) := by omega
                  have HW := Lib.hid (show wrap64 (IntKind.u64.wrap (-(q : Int))) = -(q : Int) by rw [IntKind.wrap_u64]; unfold wrap64; omega)
                  clear HQ
                  go_wp2
                  refine bodyPost_ret (v := .tuple #[.agg #[.int .i64 (wrap64 (IntKind.u64.wrap (-(q : Int)))), .int .i64 ((0 : Nat) : Int)], .int .i64 0]) (by simp [results, Tryz.results56, go_sem, r0, r1]) rfl ⟨?_, (hbel.setCell (by simp) _).setCell (by simp) _⟩
                  rw [HR.out, HW.out]
                  rfl
                · have HR := Lib.hid (show tl V s = ⟨0, 0, 8⟩ by rw [HV.out, if_neg (by simpa [most] using hov)])
                  have hov' : (9223372036854775808 : Int) < (q : Int) := by omega
                  clear HQ
                  go_wp2
                  refine bodyPost_ret (v := .tuple #[.agg #[.int .i64 0, .int .i64 0], .int .i64 8]) (by simp [results, Tryz.results56, go_sem, r0, r1]) rfl ⟨?_, (hbel.setCell (by simp) _).setCell (by simp) _⟩
                  rw [HR.out]
                  rfl
            | succ j =>
              rw [show (((j + 1 : Nat) : Int) - 1) = (j : Int) by omega]
              obtain ⟨a2, ha2, hb2, hc2⟩ := hr.digAt (show j < n' by omega)
              subst ha2
              rw [digs_at] at hc2
              have hq1 : q ≤ 1000000000000000000 := by
                have h1 : q = N' / 10 ^ j / 10 := by rw [HQ.out, Nat.pow_succ, Nat.div_div_eq_div_mul]
                have h2 := Nat.div_le_self N' (10 ^ j)
                omega
              have HQ2 := Lib.hid (show 10 * q + N' / 10 ^ j % 10 = N' / 10 ^ j by
                have h1 : q = N' / 10 ^ j / 10 := by rw [HQ.out, Nat.pow_succ, Nat.div_div_eq_div_mul]
                omega)
              have hd9 : N' / 10 ^ j % 10 < 10 := Nat.mod_lt _ (by omega)
              generalize N' / 10 ^ j % 10 = d at *
              clear HQ
              go_wp2
              go_round
              case rel => exact ⟨j, 10 * q + d, by go_num, by go_num, by omega, HQ2⟩
              case measure => simp [intOf]
      · have hnn : N' % 10 ≠ 0 := fun e => hmore ⟨by omega, e⟩
        have hn0 : 0 < n' := by
          rcases Nat.eq_zero_or_pos n' with h0 | h0
          · have := digs_nil.1 (List.eq_nil_of_length_eq_zero (HN.out.symm.trans h0))
            omega
          · exact h0
        obtain ⟨a, rfl, ha, hc⟩ := hr.digAt hn0
        rw [digs_at, Nat.pow_zero, Nat.div_one] at hc
        have hc' : wr.cell? a = some (.int .i64 ((N' % 10 : Nat) : Int)) := hc
        have hnd : (((N' % 10 : Nat) : Int) == 0) = false := by simp; omega
        have hn1 : ((n' : Int) == 0) = false := by simp; omega
        have hsp : (0 : Int) < (s' : Int) := by omega
        clear hc hnn hmore
        generalize N' % 10 = dd at *
        by_cases hbig : 19 < n'
        · have hbg : (19 : Int) < (n' : Int) := by omega
          have HV : Hid (tl V s = ⟨0, 0, 8⟩) := Lib.hid (by
            rw [HT.out]
            unfold tlb
            rw [HE.out]
            have h1 : ¬ N' < 10 ^ 19 := fun h => by have := digs_len.2 h; rw [← HN.out] at this; omega
            simp only
            rw [if_neg (by unfold most; cases b <;> simp <;> omega)])
          go_wp2
          refine bodyPost_ret (v := .tuple #[.agg #[.int .i64 0, .int .i64 0], .int .i64 8]) (by simp [results, Tryz.results56, go_sem, r0, r1]) rfl ⟨?_, (hbel.setCell (by simp) _).setCell (by simp) _⟩
          rw [HV.out]
          rfl
        · have hN19 : N' < 10000000000000000000 := by
            have := digs_len.1 (show (digs N').length ≤ 19 by rw [← HN.out]; omega)
            omega
          have hbg : ¬ (19 : Int) < (n' : Int) := by omega
          have HZ := Lib.hid (show N' / 10 ^ n' = 0 by
            have := digs_len.1 (show (digs N').length ≤ n' by rw [← HN.out]; exact Nat.le_refl _)
            exact Nat.div_eq_of_lt this)
          have HV : Hid (tl V s = if N' ≤ most b then ⟨sgn b N', s', 0⟩ else ⟨0, 0, 8⟩) := Lib.hid (by
            rw [HT.out]
            unfold tlb
            rw [HE.out])
          clear HE
          go_wp2
          go_loop [6, 7] (fun uu ii => ∃ (j q : Nat), uu = .int .u64 (q : Nat) ∧ ii = .int .i64 ((j : Int) - 1) ∧ j ≤ n' ∧ Hid (q = N' / 10 ^ j)) (fun _ ii => (intOf ii + 1).toNat)
          case atStart => exact ⟨n', 0, rfl, by go_num, Nat.le_refl _, Lib.hid HZ.out.symm⟩
          case round =>
            obtain ⟨j, q, rfl, rfl, hj, HQ⟩ := hrel
            cases j with
            | zero =>
              have hq : q = N' := by rw [HQ.out]; simp
              subst hq
              cases b
              · by_cases hov : q ≤ 9223372036854775807
                · have HR := Lib.hid (show tl V s = ⟨(q : Int), s', 0⟩ by rw [HV.out, if_pos (by simpa [most] using hov)]; rfl)
                  have hov' : ¬ (9223372036854775807 : Int) < (q : Int) := by omega
                  clear HQ
                  go_wp2
                  refine bodyPost_ret (v := .tuple #[.agg #[.int .i64 (q : Nat), .int .i64 ((s' : Nat) : Int)], .int .i64 0]) (by simp [results, Tryz.results56, go_sem, r0, r1]) rfl ⟨?_, (hbel.setCell (by simp) _).setCell (by simp) _⟩
                  rw [HR.out]
                  rfl
                · have HR := Lib.hid (show tl V s = ⟨0, 0, 8⟩ by rw [HV.out, if_neg (by simpa [most] using hov)])
                  have hov' : (9223372036854775807 : Int) < (q : Int) := by omega
                  clear HQ
                  go_wp2
                  refine bodyPost_ret (v := .tuple #[.agg #[.int .i64 0, .int .i64 0], .int .i64 8]) (by simp [results, Tryz.results56, go_sem, r0, r1]) rfl ⟨?_, (hbel.setCell (by simp) _).setCell (by simp) _⟩
                  rw [HR.out]
                  rfl
              · by_cases hov : q ≤ 9223372036854775808
                · have HR := Lib.hid (show tl V s = ⟨-(q : Int), s', 0⟩ by rw [HV.out, if_pos (by simpa [most] using hov)]; rfl)
                  have hov' : ¬ (9223372036854775808 : Int) < (q : Int) := by omega
                  have HW := Lib.hid (show wrap64 (IntKind.u64.wrap (-(q : Int))) = -(q : Int) by rw [IntKind.wrap_u64]; unfold wrap64; omega)
                  clear HQ
                  go_wp2
                  refine bodyPost_ret (v := .tuple #[.agg #[.int .i64 (wrap64 (IntKind.u64.wrap (-(q : Int)))), .int .i64 ((s' : Nat) : Int)], .int .i64 0]) (by simp [results, Tryz.results56, go_sem, r0, r1]) rfl ⟨?_, (hbel.setCell (by simp) _).setCell (by simp) _⟩
                  rw [HR.out, HW.out]
                  rfl
                · have HR := Lib.hid (show tl V s = ⟨0, 0, 8⟩ by rw [HV.out, if_neg (by simpa [most] using hov)])
                  have hov' : (9223372036854775808 : Int) < (q : Int) := by omega
                  clear HQ
                  go_wp2
                  refine bodyPost_ret (v := .tuple #[.agg #[.int .i64 0, .int .i64 0], .int .i64 8]) (by simp [results, Tryz.results56, go_sem, r0, r1]) rfl ⟨?_, (hbel.setCell (by simp) _).setCell (by simp) _⟩
                  rw [HR.out]
                  rfl
            | succ j =>
              rw [show (((j + 1 : Nat) : Int) - 1) = (j : Int) by omega]
              obtain ⟨a2, ha2, hb2, hc2⟩ := hr.digAt (show j < n' by omega)
              injection ha2 with ha2; subst ha2
              rw [digs_at] at hc2
              have hq1 : q ≤ 1000000000000000000 := by
                have h1 : q = N' / 10 ^ j / 10 := by rw [HQ.out, Nat.pow_succ, Nat.div_div_eq_div_mul]
                have h2 := Nat.div_le_self N' (10 ^ j)
                omega
              have HQ2 := Lib.hid (show 10 * q + N' / 10 ^ j % 10 = N' / 10 ^ j by
                have h1 : q = N' / 10 ^ j / 10 := by rw [HQ.out, Nat.pow_succ, Nat.div_div_eq_div_mul]
                omega)
              have hd9 : N' / 10 ^ j % 10 < 10 := Nat.mod_lt _ (by omega)
              generalize N' / 10 ^ j % 10 = d at *
              clear HQ
              go_wp2
              go_round
              case rel => exact ⟨j, 10 * q + d, by go_num, by go_num, by omega, HQ2⟩
              case measure => simp [intOf]
end Go.Proofs.YtmbjmgmnicacpaaGreatDoor
