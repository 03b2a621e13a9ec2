/- The reference's FloorDec by its contract. Condition: a decimal within 64 bits, at most nine places. -/
import Derived.Test.YtfkfgfajdmacbaaDoorRow11
namespace Go.Proofs.YtfkfgfajdmacbaaDoor
open Go.RowKit

theorem floor_small {m : Int} {s : Nat} (h : m.natAbs < 10 ^ s) : m / 10 ^ s = if m < 0 then -1 else 0 := by
  have hp : (0 : Int) < 10 ^ s := Int.pow_pos (by omega)
  have hc : ((10 ^ s : Nat) : Int) = (10 : Int) ^ s := by simp
  have h' : (m.natAbs : Int) < (10 : Int) ^ s := by rw [← hc]; omega
  generalize (10 : Int) ^ s = D at *
  split
  · rw [Int.ediv_eq_iff_of_pos hp] <;> omega
  · exact Int.ediv_eq_zero_of_lt (by omega) (by omega)
theorem floor_sgn {m : Int} {s : Nat} : m / 10 ^ s = sgn (decide (m < 0)) (m.natAbs / 10 ^ s) + if m < 0 ∧ m.natAbs % 10 ^ s ≠ 0 then -1 else 0 := by
  have hp : (0 : Int) < 10 ^ s := Int.pow_pos (by omega)
  have hc : ((10 ^ s : Nat) : Int) = (10 : Int) ^ s := by simp
  rw [← hc]
  have hp' : 0 < 10 ^ s := Nat.pow_pos (by omega)
  generalize 10 ^ s = D at *
  by_cases h : m < 0
  · obtain ⟨k, rfl⟩ : ∃ k : Nat, m = -(k : Int) := ⟨m.natAbs, by omega⟩
    have e : (-(k : Int)).natAbs = k := by omega
    rw [e]
    have h1 := Nat.div_add_mod k D
    have h2 := Nat.mod_lt k hp'
    by_cases h3 : k % D = 0
    · rw [if_neg (by simp [h3])]
      simp only [h, decide_true, sgn, if_true, Int.add_zero]
      have : -(k : Int) = (D : Int) * -((k / D : Nat) : Int) := by
        rw [Int.mul_neg]
        have : (k : Int) = ((D * (k / D) : Nat) : Int) := by rw [h3] at h1; omega
        rw [this]; simp
      rw [this, Int.mul_ediv_cancel_left _ (by omega)]
    · rw [if_pos ⟨h, h3⟩]
      simp only [h, decide_true, sgn, if_true]
      rw [Int.ediv_eq_iff_of_pos (by omega)]
      have e2 : ((k : Nat) : Int) = (D : Int) * ((k / D : Nat) : Int) + ((k % D : Nat) : Int) := by
        have : ((D * (k / D) + k % D : Nat) : Int) = (k : Int) := by rw [h1]
        rw [← this]; simp
      generalize ((k / D : Nat) : Int) = q at *
      generalize hr : ((k % D : Nat) : Int) = r at *
      have hr0 : 0 < r := by omega
      have hr1 : r < (D : Int) := by omega
      rw [e2]
      generalize (D : Int) = E at *
      constructor
      all_goals
        try simp only [Int.add_mul, Int.neg_mul, Int.mul_comm q E]
        omega
  · obtain ⟨k, rfl⟩ : ∃ k : Nat, m = (k : Int) := ⟨m.natAbs, by omega⟩
    rw [if_neg (by omega)]
    simp [h, sgn]
theorem rest_step (N j : Nat) : (N % 10 ^ (j + 1) ≠ 0) ↔ (N % 10 ^ j ≠ 0 ∨ N / 10 ^ j % 10 ≠ 0) := by
  rw [Nat.pow_succ, Nat.mod_mul]
  have hp : 0 < 10 ^ j := Nat.pow_pos (by omega)
  generalize N % 10 ^ j = x at *
  generalize N / 10 ^ j % 10 = y at *
  generalize 10 ^ j = D at *
  have : D * y = 0 ↔ y = 0 := by rw [Nat.mul_eq_zero]; omega
  omega

set_option maxRecDepth 20000 in
set_option maxHeartbeats 2000000 in
theorem floorDec_any {w : World} {m : Int} {s : Nat} (h0 : -9223372036854775808 ≤ m) (h1 : m ≤ 9223372036854775807) (hs : s ≤ 9) (hr : -9223372036854775808 ≤ m / 10 ^ s ∧ m / 10 ^ s ≤ 9223372036854775807) :
    Calls Tryd.prog 16 #[.agg #[.int .i64 m, .int .i64 (s : Nat)]] w fun e w' => e = .returned (.tuple #[.agg #[.int .i64 (m / 10 ^ s), .int .i64 0], .int .i64 0]) ∧ Below w.heap.size w w' := by
  have HBG := Lib.hid (fun W : World => bigN_big (w := W) h0 h1)
  have HF1 := Lib.hid (fun h => floor_small (m := m) (s := s) h)
  have HF2 := Lib.hid (floor_sgn (m := m) (s := s))
  have H20 := Lib.hid (digs_i64 h0 h1)
  have HNb : Hid (m.natAbs ≤ 9223372036854775808) := Lib.hid (by omega)
  obtain ⟨b, hb⟩ : ∃ b, decide (m < 0) = b := ⟨_, rfl⟩
  have Hb := Lib.hid hb
  have hBs0 := ((sb1 w 25 #[.int .i64 m, .int .i64 (s : Nat)]).push (by simp) 25 #[.int .i64 0, .int .i64 0]).swp
  go_enter Tryd.func16, Tryd.ntmps16
  go_wp2_with fail
  refine (HBG.out _).mono ?_
  rintro e w2 ⟨y, rfl, hy, hbc⟩
  have hB2 := hBs0.call hbc
  obtain ⟨A, n, c, rfl, hnc, hcm, hr0⟩ := hy
  rw [hb]
  have hn20 : n ≤ 20 := by have h2 := H20.out; have := hr0.dlen; omega
  have HL := Lib.hid hr0.dlen
  obtain ⟨N, hN⟩ : ∃ N, m.natAbs = N := ⟨_, rfl⟩
  rw [hN] at hr0 HL H20 HNb HF1 HF2
  clear hBs0 hbc HBG
  have hB3 := hB2.alloc 59 #[.bool b, .slice A n c]
  have hr1 : Rd (w2.alloc (.cells #[.bool b, .slice A n c] 59)) w2.heap.size 1 A n (dcs (digs N)) := hr0.below ((Below.refl _ _).alloc (Nat.le_refl _) _)
  have hg1 : w2.heap.size < (w2.alloc (.cells #[.bool b, .slice A n c] 59)).heap.size := by simp
  have hg0 : w.heap.size + 2 ≤ w2.heap.size := hB2.size
  have k1 := hB3.bk _ (.tail _ (.head _))
  have c10 := k1.cell 0
  have c11 := k1.cell 1
  have kd := hB2.bk _ (.head _)
  have cd0 := kd.cell 0
  have cd1 := kd.cell 1
  have kg := hB3.bk _ (.head _)
  have cg0 := kg.cell 0
  have cg1 := kg.cell 1
  have kr := hB3.bk _ (.tail _ (.tail _ (.head _)))
  have r0 := kr.cell 0
  have r1 := kr.cell 1
  have y0 := kr.frozen 0
  have y1 := kr.frozen 1
  have hbel := hB3.bel
  have kr2 := hB2.bk _ (.tail _ (.head _))
  have r20 := kr2.cell 0
  have r21 := kr2.cell 1
  have y20 := kr2.frozen 0
  have y21 := kr2.frozen 1
  by_cases hbig : n ≤ s
  · have hbg : (n : Int) ≤ (s : Int) := by omega
    have hlt : N < 10 ^ s := digs_len.1 (by rw [← HL.out]; exact hbig)
    have HV := Lib.hid (HF1.out hlt)
    have hm := Hb.out
    cases b
    · have HV2 := Lib.hid (show m / 10 ^ s = 0 by rw [HV.out, if_neg (of_decide_eq_false hm)])
      clear hm HV hlt
      go_wp2
      refine bodyPost_ret (v := .tuple #[.agg #[.int .i64 0, .int .i64 0], .int .i64 0]) (by simp [results, Tryd.results16, go_sem, r0, r1]) rfl ⟨by rw [HV2.out], (hbel.setCell (by simp) _).setCell (by simp) _⟩
    · have HV2 := Lib.hid (show m / 10 ^ s = -1 by rw [HV.out, if_pos (of_decide_eq_true hm)])
      clear hm HV hlt
      go_wp2
      refine bodyPost_ret (v := .tuple #[.agg #[.int .i64 (-1), .int .i64 0], .int .i64 0]) (by simp [results, Tryd.results16, go_sem, r0, r1]) rfl ⟨by rw [HV2.out], (hbel.setCell (by simp) _).setCell (by simp) _⟩
  · have hbg : ¬ (n : Int) ≤ (s : Int) := by omega
    obtain ⟨pa, rfl, -, -⟩ := hr1.digAt (show s < n by omega)
    go_wp2
    generalize hg1e : w2.heap.size = g1 at *
    generalize w2.alloc (.cells #[.bool b, .slice (some pa) n c] 59) = WB at *
    go_loop [6, 7] (fun rr ii => ∃ (j : Nat) (rs : Bool), ii = .int .i64 (j : Nat) ∧ rr = .bool rs ∧ j ≤ s ∧ Hid (rs = decide (N % 10 ^ j ≠ 0))) (fun _ ii => s - (intOf ii).toNat)
    case atStart => exact ⟨0, false, rfl, rfl, Nat.zero_le _, Lib.hid (by simp [Nat.mod_one])⟩
    case round =>
      obtain ⟨j, rs, rfl, rfl, hj, HQ⟩ := hrel
      by_cases hjs : j < s
      · have hjs' : (j : Int) < (s : Int) := by omega
        obtain ⟨pb, hpb, -, hcj⟩ := hr1.digAt (show j < n by omega)
        injection hpb with hpb
        subst hpb
        rw [digs_at] at hcj
        have HQ2 := Lib.hid (show decide (N % 10 ^ (j + 1) ≠ 0) = (decide (N % 10 ^ j ≠ 0) || decide (N / 10 ^ j % 10 ≠ 0)) by rw [decide_eq_decide.2 (rest_step N j), Bool.decide_or])
        cases rs
        · have HQ3 : Hid (decide (N % 10 ^ (j + 1) ≠ 0) = decide (N / 10 ^ j % 10 ≠ 0)) := Lib.hid (by rw [HQ2.out, ← HQ.out]; rfl)
          by_cases hd : N / 10 ^ j % 10 = 0
          · have HQ4 : Hid (false = decide (N % 10 ^ (j + 1) ≠ 0)) := Lib.hid (by rw [HQ3.out]; simp [hd])
            rw [hd] at hcj
            clear hd HQ2 HQ3
            go_wp2
            go_round
            case rel => exact ⟨j + 1, false, by go_num, rfl, by omega, HQ4⟩
            case measure => simp [intOf]; omega
          · have HQ4 : Hid (true = decide (N % 10 ^ (j + 1) ≠ 0)) := Lib.hid (by rw [HQ3.out]; simp [hd])
            clear HQ2 HQ3
            generalize N / 10 ^ j % 10 = dd at *
            have hd' : ((dd : Int) != 0) = true := by simp; omega
            clear hd
            go_wp2
            go_round
            case rel => exact ⟨j + 1, true, by go_num, by simp_all, by omega, HQ4⟩
            case measure => simp [intOf]; omega
        · have HQ4 : Hid (true = decide (N % 10 ^ (j + 1) ≠ 0)) := Lib.hid (by rw [HQ2.out, ← HQ.out]; rfl)
          clear HQ2
          go_wp2
          go_round
          case rel => exact ⟨j + 1, true, by go_num, rfl, by omega, HQ4⟩
          case measure => simp [intOf]; omega
      · obtain rfl : s = j := by omega
        have hjs' : ¬ (s : Int) < (s : Int) := by omega
        have hkn : s < n := by omega
        have hsn : s ≤ n := by omega
        have h : Rd WB WB.heap.size 1 (some pa) n (dcs (digs N)) := hr1.mono (by omega)
        have HSB : Hid (SB WB 0 ([(g1, 59, #[.bool b, .slice (some pa) n c]), (w.heap.size, 25, #[.int .i64 m, .int .i64 (s : Nat)]), (w.heap.size + 1, 25, #[.int .i64 0, .int .i64 0])] : List (Nat × TypeId × Array Value)) WB) := Lib.hid ⟨Below.refl _ _, Nat.le_refl _, hB3.bk⟩
        have hw1 : w.heap.size + 1 < WB.heap.size := by omega
        have hk0 : (0 : Int) ≤ (s : Int) := by omega
        go_wp2_with fail
        refine wp_region_phases (S := (S3 WB 0 ([(g1, 59, #[.bool b, .slice (some pa) n c]), (w.heap.size, 25, #[.int .i64 m, .int .i64 (s : Nat)]), (w.heap.size + 1, 25, #[.int .i64 0, .int .i64 0])] : List (Nat × TypeId × Array Value)) (sgn b (N / 10 ^ s)))) (E := EI) [10, 11] [(1, Is (.pointer (some ⟨w.heap.size, 0, none⟩))), (2, Is (.pointer (some ⟨w.heap.size + 1, 0, none⟩))), (4, Is (.pointer (some ⟨g1, 0, none⟩))), (5, Is (.int .i64 (s : Nat))), (6, Is (.bool rs))] [(37, Is (.pointer (some ⟨g1, 0, none⟩))), (38, Is (.bool b)), (39, FMade WB.heap.size), (40, Is (.pointer (some ⟨g1, 1, none⟩))), (41, Is (.slice (some pa) n c)), (42, Is (.int .i64 (s : Nat))), (43, FRow (n - s) (digs (N / 10 ^ s))), (44, FRow (n - s) (digs (N / 10 ^ s))), (45, FBig b (digs (N / 10 ^ s))), (46, FNum (sgn b (N / 10 ^ s)))]
          [.op [4] none, .op [37] none, .op [] none, .op [4] none, .op [40] none, .op [5] none, .op [41, 42] none, .op [39, 43] none, .op [38, 44] none, .op [45] none, .phase 0 [] [], .phase 1 [46] [(0, 8)]] (by as_aux_lemma => kernel_rfl) ?_ ?_ ?_ ?_ ?_ ⟨stable_is _ _, stable_is _ _, stable_is _ _, stable_is _ _, stable_is _ _, stable_is _ _, stable_is _ _, st_made, stable_is _ _, stable_is _ _, stable_is _ _, st_row, st_row, st_big, st_num, trivial⟩ ?_ (HSB.out.drew) ?_ ?_
        · as_aux_lemma => kernel_rfl
        · as_aux_lemma => kernel_rfl
        · as_aux_lemma => kernel_rfl
        · as_aux_lemma => kernel_rfl
        · as_aux_lemma => kernel_rfl
        · exact ⟨rfl, rfl, rfl, rfl, rfl, trivial⟩
        · refine ⟨?_, ?_, ?_, ?_, ?_, ?_, ?_, ?_, ?_, ?_, ?_, ?_, trivial⟩
          · as_aux_lemma =>
              intro vals a W hS hL
              have e4 : a.tmps.getD 4 undef = .pointer (some ⟨g1, 0, none⟩) := hL.1
              clear hL
              go_simp
              exact ⟨⟨fun d hd => by injection hd with hd; subst hd; rfl, fun h => by cases h⟩, hS, EI.refl _⟩
          · as_aux_lemma =>
              intro vals a W hS hL
              have e37 : a.tmps.getD 37 undef = .pointer (some ⟨g1, 0, none⟩) := hL.1
              clear hL
              have kb : Bk W g1 59 #[.bool b, .slice (some pa) n c] := hS.bk (.head _)
              have f0 := kb.cell 0
              have f1 := kb.cell 1
              clear kb
              go_simp
              exact ⟨⟨fun d hd => by injection hd with hd; subst hd; rfl, fun h => by cases h⟩, hS, EI.refl _⟩
          · as_aux_lemma =>
              intro vals a W hS hL
              clear hL
              have hsz := hS.size
              go_simp
              have hb : Below W.heap.size W (W.alloc (.cells #[] 3)) := (Below.refl _ _).alloc (Nat.le_refl _) _
              exact ⟨⟨fun d hd => by injection hd with hd; subst hd; exact ⟨_, rfl, World.ownsRow_made W #[] 0 (by omega) (by simp [maxLen]) (by simp)⟩, fun h => by cases h⟩, hS.call hb, EI.of_below hb⟩
          · as_aux_lemma =>
              intro vals a W hS hL
              have e4 : a.tmps.getD 4 undef = .pointer (some ⟨g1, 0, none⟩) := hL.1
              clear hL
              go_simp
              exact ⟨⟨fun d hd => by injection hd with hd; subst hd; rfl, fun h => by cases h⟩, hS, EI.refl _⟩
          · as_aux_lemma =>
              intro vals a W hS hL
              have e40 : a.tmps.getD 40 undef = .pointer (some ⟨g1, 1, none⟩) := hL.1
              clear hL
              have kb : Bk W g1 59 #[.bool b, .slice (some pa) n c] := hS.bk (.head _)
              have f0 := kb.cell 0
              have f1 := kb.cell 1
              clear kb
              go_simp
              exact ⟨⟨fun d hd => by injection hd with hd; subst hd; rfl, fun h => by cases h⟩, hS, EI.refl _⟩
          · as_aux_lemma =>
              intro vals a W hS hL
              have e5 : a.tmps.getD 5 undef = .int .i64 (s : Nat) := hL.1
              clear hL
              go_simp
              exact ⟨⟨fun d hd => by injection hd with hd; subst hd; rfl, fun h => by cases h⟩, hS, EI.refl _⟩
          · as_aux_lemma =>
              intro vals a W hS hL
              have e41 : a.tmps.getD 41 undef = .slice (some pa) n c := hL.1
              have e42 : a.tmps.getD 42 undef = .int .i64 (s : Nat) := hL.2.1
              clear hL
              have hrd := (h.below hS.bel).mono hS.bel.size
              have hcap : ¬ c = s := by omega
              have hrn := hrd.dropN (k := s) (by omega)
              rw [digs_drop] at hrn
              go_simp
              exact ⟨⟨fun d hd => by injection hd with hd; subst hd; exact ⟨some (pa.add s), c - s, rfl, by omega, by omega, hrn⟩, fun h => by cases h⟩, hS, EI.refl _⟩
          · as_aux_lemma =>
              intro vals a W hS hL
              have e39 := hL.1
              have e43 := hL.2.1
              clear hL
              have hsz := hS.size
              obtain ⟨g, e39, h39⟩ := e39
              obtain ⟨A1, c1, e43, hm1, hc1, h43⟩ := e43
              refine lands_app0 rowInts (.tmp 39) (.tmp 43) rfl e39 e43 h39 h43 (dcs_one _) (by unfold maxLen; omega) (by omega) (by omega) fun b1 k1 W1 ho hb => ?_
              obtain ⟨A2, c2, he, hnc2, hcm2, hr2⟩ := own_form ho
              exact ⟨⟨fun d hd => by injection hd with hd; subst hd; exact ⟨A2, c2, he, hnc2, hcm2, hr2⟩, fun h => by cases h⟩, hS.call hb, EI.of_below hb⟩
          · as_aux_lemma =>
              intro vals a W hS hL
              have e38 : a.tmps.getD 38 undef = .bool b := hL.1
              have e44 := hL.2.1
              clear hL
              obtain ⟨A1, c1, e44, hm1, hc1, h44⟩ := e44
              rw [Array.getD_eq_getD_getElem?] at e38 e44
              go_simp
              exact ⟨⟨fun d hd => by injection hd with hd; subst hd; exact ⟨A1, _, c1, rfl, hm1, hc1, h44⟩, fun h => by cases h⟩, hS, EI.refl _⟩
          · as_aux_lemma =>
              intro vals a W hS hL
              have e45 := hL.1
              clear hL
              obtain ⟨A1, n1, c1, e45, hm1, hc1, h45⟩ := e45
              go_simp
              refine (trim_any ⟨A1, n1, c1, rfl, hm1, hc1, h45⟩).mono ?_
              rintro e W1 ⟨y, rfl, hy, hb⟩
              exact ⟨_, rfl, ⟨fun d hd => by injection hd with hd; subst hd; exact bigN_of (digs_digs _) (dval_digs _) hy, fun h => by cases h⟩, hS.call hb, EI.of_below hb⟩
          · as_aux_lemma =>
              intro a W vals hv hS hL hp
              clear hL
              match vals, hv, hS with
              | [], _, hS =>
                have hB : SB WB 0 ([(g1, 59, #[.bool b, .slice (some pa) n c]), (w.heap.size, 25, #[.int .i64 m, .int .i64 (s : Nat)]), (w.heap.size + 1, 25, #[.int .i64 0, .int .i64 0])] : List (Nat × TypeId × Array Value)) W := hS
                have hF := hB.alloc 59 #[.bool false, .slice none 0 0]
                have hz := hB.size
                have hb : Below W.heap.size W (W.alloc (.cells #[.bool false, .slice none 0 0] 59)) := (Below.refl _ _).alloc (Nat.le_refl _) _
                go_simp
                exact ⟨⟨_, rfl, hz, hF⟩, trivial, EI.of_below hb⟩
          · as_aux_lemma =>
              intro a W vals hv hS hL hp
              have e46 := hL.1
              clear hL
              match vals, hv, hS with
              | [v], _, hS =>
                obtain ⟨g, rfl, hg, hB⟩ := hS
                have e8 := hp.1 (by simp)
                simp only [List.getElem?_cons_zero, Option.some.injEq] at e8
                have hnum := e46
                obtain ⟨A4, n4, c4, e46, hm4, hc4, h46⟩ := e46
                have kz := hB.bk _ (List.mem_cons_self ..)
                have hlt : ∀ x ∈ ([(g1, 59, #[.bool b, .slice (some pa) n c]), (w.heap.size, 25, #[.int .i64 m, .int .i64 (s : Nat)]), (w.heap.size + 1, 25, #[.int .i64 0, .int .i64 0])] : List (Nat × TypeId × Array Value)), x.1 ≠ g := by simp <;> omega
                have z0 := kz.frozen 0
                have z1 := kz.frozen 1
                have q0 := kz.cell 0
                have q1 := kz.cell 1
                rw [show a.tmps.getD 46 undef = _ from e46] at hnum
                have hF := hB.set2 (by omega) hlt (.bool (decide ((sgn b (N / 10 ^ s)) < 0))) (.slice A4 n4 c4)
                have hN := BigN.box2 (b' := decide ((sgn b (N / 10 ^ s)) < 0)) (A' := A4) (n' := n4) (c' := c4) hnum kz
                have hE := (EI.set (i := 0) (u := .bool (decide ((sgn b (N / 10 ^ s)) < 0))) kz (show (59 : TypeId) ≠ 3 by decide) no_big).trans (EI.set (i := 1) (u := .slice A4 n4 c4) (show Bk (W.setCell ⟨g, 0, none⟩ (.bool (decide ((sgn b (N / 10 ^ s)) < 0)))) g 59 #[.bool (decide ((sgn b (N / 10 ^ s)) < 0)), .slice none 0 0] by simpa using kz.set_ 0 (.bool (decide ((sgn b (N / 10 ^ s)) < 0)))) (show (59 : TypeId) ≠ 3 by decide) no_big)
                rw [Array.getD_eq_getD_getElem?] at e46 e8
                have e8x := e8.symm
                clear e8 hS kz hB hnum
                go_simp
                exact ⟨⟨g, _, rfl, hg, hN, hF⟩, trivial, hE⟩
        · intro a W' vals hd hsz hT hF hv hP hS
          obtain ⟨v0, v1, rfl⟩ : ∃ v0 v1, vals = [v0, v1] := by
            match vals, hv with
            | [x, y], _ => exact ⟨x, y, rfl⟩
          obtain ⟨g, cs, hg0, hg, hN, hB⟩ : ∃ g cs, v0 = .pointer (some ⟨g, 0, none⟩) ∧ WB.heap.size + 0 ≤ g ∧ BigN W' (.agg cs) (sgn b (N / 10 ^ s)) ∧ SB WB 0 ((g, 59, cs) :: ([(g1, 59, #[.bool b, .slice (some pa) n c]), (w.heap.size, 25, #[.int .i64 m, .int .i64 (s : Nat)]), (w.heap.size + 1, 25, #[.int .i64 0, .int .i64 0])] : List (Nat × TypeId × Array Value))) W' := hS
          subst hg0
          have e8 : a.tmps.getD 8 undef = .pointer (some ⟨g, 0, none⟩) := by
            have := hP 0 10 _ 8 rfl (by simp) rfl rfl
            simpa using this.symm
          have e2 : a.tmps.getD 2 undef = .pointer (some ⟨w.heap.size + 1, 0, none⟩) := hT 2 (by simp)
          have e4 : a.tmps.getD 4 undef = .pointer (some ⟨g1, 0, none⟩) := hT 4 (by simp)
          have e6 : a.tmps.getD 6 undef = .bool rs := hT 6 (by simp)
          clear hT hF hP
          rw [act_lit 60 a hd hsz]
          simp only [List.range, List.range.loop, List.map, e2, e4, e6, e8]
          clear e2 e4 e6 e8
          obtain ⟨A4, n4, c4, hcs, hm4, hc4, h4⟩ := hN
          injection hcs with hcs
          subst hcs
          have hN : BigN W' (.agg #[.bool (decide ((sgn b (N / 10 ^ s)) < 0)), .slice A4 n4 c4]) (sgn b (N / 10 ^ s)) := ⟨A4, n4, c4, rfl, hm4, hc4, h4⟩
          have hn4 : (digs (sgn b (N / 10 ^ s)).natAbs).length ≤ 500 := by
            rw [sgn_abs, ← digs_drop, List.length_drop, ← HL.out]
            omega
          have HTS := Lib.hid (tl_stop (s := 0) hr.1 hr.2 (.inl rfl))
          have kg1 := hB.bk _ (.tail _ (.head _))
          have dg0 := kg1.cell 0
          have dg1 := kg1.cell 1
          have k8 := hB.bk _ (.head _)
          have d80 := k8.cell 0
          have d81 := k8.cell 1
          have hm := Hb.out
          have hF2 := HF2.out
          by_cases hneg : b = true ∧ rs = true
          · obtain ⟨rfl, rfl⟩ := hneg
            have HVV : Hid (m / 10 ^ s = sgn true (N / 10 ^ s) + -1) := Lib.hid (by
              rw [hF2, if_pos ⟨of_decide_eq_true hm, of_decide_eq_true HQ.out.symm⟩, hm])
            clear hm hF2 HQ
            have hbA : Below W'.heap.size W' (W'.alloc (.cells #[.int .i64 1] 3)) := (Below.refl W'.heap.size W').alloc (Nat.le_refl _) _
            have hNA := hN.below hbA
            have hOne : BigN (W'.alloc (.cells #[.int .i64 1] 3)) (.agg #[.bool true, .slice (some ⟨W'.heap.size, 0, none⟩) 1 1]) (-1) :=
              ⟨some ⟨W'.heap.size, 0, none⟩, 1, 1, rfl, Nat.le_refl _, by unfold maxLen; omega, by
                rw [show digs (-1 : Int).natAbs = [1] by rw [show (-1 : Int).natAbs = 1 from rfl, digs_pos (by omega), show (1 : Nat) / 10 = 0 from rfl, digs_zero]]
                exact (Rd.fresh W' 3 1 1 [.int .i64 1] rfl).mono (by simp)⟩
            have hBA := hB.call hbA
            generalize decide (sgn true (N / 10 ^ s) < 0) = b4 at *
            go_wp2_with fail
            refine (add_any' hNA hOne hn4 (by rw [show digs (-1 : Int).natAbs = [1] by rw [show (-1 : Int).natAbs = 1 from rfl, digs_pos (by omega), show (1 : Nat) / 10 = 0 from rfl, digs_zero]]; simp)).mono ?_
            rintro e w5 ⟨z, rfl, hz, hb5⟩
            rw [← HVV.out] at hz
            have hB5 := hBA.call hb5
            have hz2 := hz
            obtain ⟨A5, n5, c5, rfl, hm5, hc5, h5⟩ := hz
            have HLEN : (digs (m / 10 ^ s).natAbs).length ≤ 500 := Nat.le_trans (digs_20 (by omega)) (by omega)
            generalize decide (m / 10 ^ s < 0) = b5 at *
            have k5 := hB5.bk _ (.head _)
            have f0 := k5.cell 0
            have f1 := k5.cell 1
            have z0 := k5.frozen 0
            have z1 := k5.frozen 1
            have hF := hB5.set2 (by omega) (by simp <;> omega) (.bool b5) (.slice A5 n5 c5)
            have hN5 := hz2.box2 (b' := b5) (A' := A5) (n' := n5) (c' := c5) k5
            clear HVV
            have HVV : Hid (tl (m / 10 ^ s) 0 = tl (m / 10 ^ s) 0) := Lib.hid rfl
            go_wp2_with fail
            generalize (w5.setCell ⟨g, 0, none⟩ (.bool b5)).setCell ⟨g, 1, none⟩ (.slice A5 n5 c5) = W6 at *
            refine (small_any (s := 0) hN5 HLEN (by omega)).mono ?_
            rintro e w6 ⟨rfl, hb6⟩
            rw [HTS.out]
            have hB6 := hF.call hb6
            have kr6 := hB6.bk _ (.tail _ (.tail _ (.tail _ (.head _))))
            have r60 := kr6.cell 0
            have r61 := kr6.cell 1
            have y60 := kr6.frozen 0
            have y61 := kr6.frozen 1
            have hbel6 := hbel.trans (hB6.bel.mono (show w.heap.size ≤ WB.heap.size by omega))
            go_wp2
            refine bodyPost_ret (v := .tuple #[.agg #[.int .i64 (m / 10 ^ s), .int .i64 0], .int .i64 0]) (by simp [results, Tryd.results16, go_sem, r60, r61]) rfl ⟨rfl, (hbel6.setCell (by simp) _).setCell (by simp) _⟩
          · have HVV : Hid (m / 10 ^ s = sgn b (N / 10 ^ s)) := Lib.hid (by
              rw [hF2, hm, if_neg, Int.add_zero]
              rintro ⟨e1, e2⟩
              exact hneg ⟨by rw [← hm]; exact decide_eq_true e1, by rw [HQ.out]; exact decide_eq_true e2⟩)
            have HLEN := hn4
            have hF := hB
            have hN5 := hN
            generalize decide (sgn b (N / 10 ^ s) < 0) = b4 at *
            clear hm hF2 HQ
            have hbr : (b && rs) = false := by cases b <;> cases rs <;> simp_all
            cases b
            · go_wp2_with fail
              refine (small_any (s := 0) hN5 HLEN (by omega)).mono ?_
              rintro e w6 ⟨rfl, hb6⟩
              rw [← HVV.out, HTS.out]
              have hB6 := hF.call hb6
              have kr6 := hB6.bk _ (.tail _ (.tail _ (.tail _ (.head _))))
              have r60 := kr6.cell 0
              have r61 := kr6.cell 1
              have y60 := kr6.frozen 0
              have y61 := kr6.frozen 1
              have hbel6 := hbel.trans (hB6.bel.mono (show w.heap.size ≤ WB.heap.size by omega))
              go_wp2
              refine bodyPost_ret (v := .tuple #[.agg #[.int .i64 (m / 10 ^ s), .int .i64 0], .int .i64 0]) (by simp [results, Tryd.results16, go_sem, r60, r61]) rfl ⟨rfl, (hbel6.setCell (by simp) _).setCell (by simp) _⟩
            · obtain rfl : rs = false := by simpa using hbr
              go_wp2_with fail
              refine (small_any (s := 0) hN5 HLEN (by omega)).mono ?_
              rintro e w6 ⟨rfl, hb6⟩
              rw [← HVV.out, HTS.out]
              have hB6 := hF.call hb6
              have kr6 := hB6.bk _ (.tail _ (.tail _ (.tail _ (.head _))))
              have r60 := kr6.cell 0
              have r61 := kr6.cell 1
              have y60 := kr6.frozen 0
              have y61 := kr6.frozen 1
              have hbel6 := hbel.trans (hB6.bel.mono (show w.heap.size ≤ WB.heap.size by omega))
              go_wp2
              refine bodyPost_ret (v := .tuple #[.agg #[.int .i64 (m / 10 ^ s), .int .i64 0], .int .i64 0]) (by simp [results, Tryd.results16, go_sem, r60, r61]) rfl ⟨rfl, (hbel6.setCell (by simp) _).setCell (by simp) _⟩
end Go.Proofs.YtfkfgfajdmacbaaDoor
