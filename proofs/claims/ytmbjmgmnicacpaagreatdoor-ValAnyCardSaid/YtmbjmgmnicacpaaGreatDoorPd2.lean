/- The reference's ParseDec, of a text with a minus, by its contract. Condition: the text is not too long. -/
import Derived.Test.YtmbjmgmnicacpaaGreatDoorPd1
import Derived.Test.YtmbjmgmnicacpaaGreatDoorBox8
import Derived.Test.YtmbjmgmnicacpaaGreatDoorRow7
import Derived.Test.YtmbjmgmnicacpaaGreatDoorSums
import Derived.Deep.AppendLies
namespace Go.Proofs.YtmbjmgmnicacpaaGreatDoor
open Go.RowKit

set_option maxHeartbeats 8000000 in
set_option maxRecDepth 100000 in
theorem pd_true {w : World} {s : ByteArray} (hs : s.size ≤ 3000) (h0 : 0 < s.size) (h45 : (((s[0]).toNat : Int) == 45) = true) (X : DR) (hX : refE s.data.toList true 1 (rrun 1 1 (s.data.toList.drop 1) none []) = X) :
    Calls Tryz.prog 33 #[.string s] w fun e w' => e = .returned (dv X) ∧ Below w.heap.size w w' := by
  obtain ⟨R, hR⟩ : ∃ R, rrun 1 1 (s.data.toList.drop 1) none [] = R := ⟨_, rfl⟩
  rw [hR] at hX
  have HR := Lib.hid hR
  have HX := Lib.hid hX
  clear hR hX
  have H0 := Lib.hid ((sb1 w 27 #[.int .i64 0, .int .i64 0]).push (by simp) 98 #[.bool true, .slice none 0 0])
  have h0' : (0 : Int) < (s.size : Int) := by omega
  go_enter Tryz.func33, Tryz.ntmps33
  go_wp2
  go_loopw [7, 8] (fun s7 s8 wr => ∃ (k : Nat) (dot : Option Nat) (D : List Nat) (A : Option Addr) (n c : Nat), (dot = none ∧ s7 = .int .i64 (-1) ∨ ∃ d : Nat, dot = some d ∧ s7 = .int .i64 (d : Int) ∧ 1 < d ∧ d < k) ∧ s8 = .int .i64 (k : Int) ∧ SB w 2 ([(w.heap.size + 1, 98, #[.bool true, .slice A n c]), (w.heap.size, 27, #[.int .i64 0, .int .i64 0])] : List (Nat × TypeId × Array Value)) wr ∧ n ≤ c ∧ c ≤ maxLen ∧ Rd wr wr.heap.size 1 A n (dcs D) ∧ 1 ≤ k ∧ k ≤ s.size ∧ n ≤ k ∧ Digs D ∧ Hid (rrun 1 k (s.data.toList.drop k) dot D = R)) (fun _ s8 _ => s.size - (Go.RowKit.intOf s8).toNat)
  case atStart => exact ⟨1, none, [], none, 0, 0, .inl ⟨rfl, rfl⟩, rfl, H0.out, Nat.le_refl _, by unfold maxLen; omega, Rd.nil _ _ _ _, Nat.le_refl _, by omega, by omega, (fun d hd => by cases hd), Lib.hid HR.out⟩
  case round =>
    obtain ⟨k, dot, D, A, n, c, hdot, rfl, hB, hcn, hcm, hrd, hk0, hk1, hnk, hD, HRR⟩ := hrel
    have hkI : (1 : Int) ≤ (k : Int) := by omega
    have kB := hB.bk _ (.head _)
    have kR := hB.bk _ (.tail _ (.head _))
    have c0 := kB.cell 0
    have c1 := kB.cell 1
    have z0 := kB.frozen 0
    have z1 := kB.frozen 1
    have r0 := kR.cell 0
    have r1 := kR.cell 1
    have y0 := kR.frozen 0
    have y1 := kR.frozen 1
    clear kB kR
    by_cases hk : k < s.size
    · have hk' : (k : Int) < (s.size : Int) := by omega
      obtain ⟨HS, HZ⟩ := rrun_at hk HRR.out
      have HS := Lib.hid HS
      have HZ := Lib.hid HZ
      clear HRR
      have h256 := (s[k]'hk).toNat_lt
      rcases hdot with ⟨rfl, rfl⟩ | ⟨d, rfl, rfl, hd0, hd1⟩
      · by_cases h46 : s[k].toNat = 46
        · have h46' : (((s[k]).toNat : Int) == 46) = true := by simp; omega
          have h48 : ¬ (48 : Int) ≤ ((s[k]).toNat : Int) := by omega
          have hc46 : s[k] = 46 := (u8_eq (n := 46) (by decide)).2 h46
          by_cases hkk : 1 < k
          · have hkk' : (1 : Int) < (k : Int) := by omega
            have HN := Lib.hid (HS.out (some k, D) (by rw [hc46]; exact rstep_dot hkk))
            clear HS HZ h46 hc46
            go_wp2
            go_roundw
            case rel => exact ⟨k + 1, some k, D, A, n, c, .inr ⟨k, rfl, rfl, by omega, by omega⟩, by go_num, hB, hcn, hcm, hrd, by omega, by omega, by omega, hD, HN⟩
            case measure => simp [Go.RowKit.intOf]; omega
          · have hkk' : ¬ (1 : Int) < (k : Int) := by omega
            have HN := Lib.hid (HZ.out (rstep_no (fun h => hkk h.2.2) (by rw [hc46]; decide)))
            clear HS HZ h46 hc46
            obtain rfl : X = ⟨0, 0, 2⟩ := by rw [← HX.out, HN.out]; rfl
            have hbel := hB.bel
            clear hB HX HR HN hrd hD hcn hcm
            go_wp2
            refine bodyPost_ret (v := .tuple #[.agg #[.int .i64 0, .int .i64 0], .int .i64 2]) ?_ rfl ⟨rfl, (hbel.setCell (by simp) _).setCell (by simp) _⟩
            simp [results, Tryz.results33, go_sem, r0, r1]
        · have h46' : (((s[k]).toNat : Int) == 46) = false := by simp; omega
          have hc46 : ¬ (s[k] = 46 ∧ (none : Option Nat) = none ∧ 1 < k) := fun h => h46 ((u8_eq (n := 46) (by decide)).1 h.1)
          by_cases h48 : 48 ≤ s[k].toNat
          · have h48' : (48 : Int) ≤ ((s[k]).toNat : Int) := by omega
            by_cases h57 : s[k].toNat ≤ 57
            · have h57' : ((s[k]).toNat : Int) ≤ 57 := by omega
              have HN := Lib.hid (HS.out (_, _) (rstep_dig hc46 ((dq_iff _).2 ⟨h48, h57⟩)))
              have hDq : Digs (qv s[k] :: D) := fun x hx => by
                rcases List.mem_cons.1 hx with rfl | hx
                · exact qv_lt ((dq_iff _).2 ⟨h48, h57⟩)
                · exact hD x hx
              clear HS HZ hc46 h46 hD
              obtain ⟨q, hq⟩ : ∃ q : Nat, ((s[k].toNat : Nat) : Int) - 48 = (q : Int) := ⟨s[k].toNat - 48, by omega⟩
              have hqv : qv s[k] = q := by unfold qv; omega
              have hq9 : q ≤ 9 := by omega
              rw [hqv] at HN hDq
              have HN2 := Lib.hid HN.out
              clear HN
              have HN := HN2
              clear HN2
              have hl0 := hB.bel
              have hsz := hB.size
              have kB := hB.bk _ (.head _)
              have hwf : IntKind.u8.wrap (q : Int) = (q : Int) := by rw [IntKind.wrap_u8]; omega
              have hwg : IntKind.i64.wrap (q : Int) = (q : Int) := IntWalk.i64_in _ (by omega)
              have ho' : ((wr.alloc (.cells #[.int .i64 (q : Int)] 3)).drew).ownsRow wr.heap.size 3 1 (.slice (some ⟨wr.heap.size, 0, none⟩) 1 1) 1 (dcs [q]) := ⟨rfl, .inr ⟨wr.heap.size, 1, #[.int .i64 (q : Int)], rfl, Nat.le_refl _, heap_alloc_new wr _, Nat.le_refl _, by unfold maxLen; omega, rfl, by simp [dcs, iv]⟩⟩
              have hbN : Below wr.heap.size wr ((wr.alloc (.cells #[.int .i64 (q : Int)] 3)).drew) := ((Below.refl _ _).alloc (Nat.le_refl _) _).drew
              have hr' := hrd.below hbN
              have hn1 : 1 + n ≤ maxLen := by unfold maxLen; omega
              have hn2 : (1 + n) * 8 ≤ 140737488355328 := by omega
              have hsW : wr.heap.size ≤ ((wr.alloc (.cells #[.int .i64 (q : Int)] 3)).drew).heap.size := hbN.size
              have hone := dcs_one D
              have kA := kB.alloc (.cells #[.int .i64 (q : Int)] 3)
              have a0 := kA.cell 0
              have a1 := kA.cell 1
              have b0 := kA.frozen 0
              have b1 := kA.frozen 1
              clear kA
              go_wp2_with fail
              go_region_law (
                (refine step_app rowInts rfl (.tmp 67) (.tmp 69) rfl rfl rfl ho' hr' hone hn1 hn2 hsW ?_
                 intro v2 w2 o2 g2 b2_
                 obtain ⟨A2, c2, rfl, hnc2, hcm2, hrd2⟩ := own_form o2
                 have hbX := hbN.trans b2_
                 have hB2 := hB.call hbX
                 have kB2 := hB2.bk _ (.head _)
                 have f0 := kB2.cell 0
                 have f1 := kB2.cell 1
                 have g0 := kB2.frozen 0
                 have g1 := kB2.frozen 1))
              all_goals
                have o3 : w2.ownsRow wr.heap.size 3 1 (.slice A2 (1 + n) c2) (1 + n) (dcs (q :: D)) := by simpa [dcs, iv] using o2
                have hrd3 : Rd w2 w2.heap.size 1 A2 (1 + n) (dcs (q :: D)) := own_rd o3
                have hF := hB2.put1 (i := 0) rfl (by omega) (by simp [butBox] <;> omega) 1 (.slice A2 (1 + n) c2)
                have hrd4 := hrd3.boxset (i := 1) (u := .slice A2 (1 + n) c2) kB2 no_big
                clear f0 f1 g0 g1 kB2 o2 g2 b2_ hbX hB2 ho' hr' hbN
                go_wp2
                go_roundw
                case rel => exact ⟨k + 1, none, q :: D, A2, 1 + n, c2, .inl ⟨rfl, rfl⟩, by go_num, by simpa [setBox] using hF, hnc2, hcm2, by simpa [World.setCell] using hrd4, by omega, by omega, by omega, hDq, HN⟩
                case measure => simp [Go.RowKit.intOf]; omega
            · have h57' : ¬ ((s[k]).toNat : Int) ≤ 57 := by omega
              have HN := Lib.hid (HZ.out (rstep_no hc46 (by rw [Bool.eq_false_iff]; exact fun h => h57 ((dq_iff _).1 h).2)))
              clear HS HZ hc46 h46 h57
              obtain rfl : X = ⟨0, 0, 2⟩ := by rw [← HX.out, HN.out]; rfl
              have hbel := hB.bel
              clear hB HX HR HN hrd hD hcn hcm
              go_wp2
              refine bodyPost_ret (v := .tuple #[.agg #[.int .i64 0, .int .i64 0], .int .i64 2]) ?_ rfl ⟨rfl, (hbel.setCell (by simp) _).setCell (by simp) _⟩
              simp [results, Tryz.results33, go_sem, r0, r1]
          · have h48' : ¬ (48 : Int) ≤ ((s[k]).toNat : Int) := by omega
            have HN := Lib.hid (HZ.out (rstep_no hc46 (by rw [Bool.eq_false_iff]; exact fun h => h48 ((dq_iff _).1 h).1)))
            clear HS HZ hc46 h46 h48
            obtain rfl : X = ⟨0, 0, 2⟩ := by rw [← HX.out, HN.out]; rfl
            have hbel := hB.bel
            clear hB HX HR HN hrd hD hcn hcm
            go_wp2
            refine bodyPost_ret (v := .tuple #[.agg #[.int .i64 0, .int .i64 0], .int .i64 2]) ?_ rfl ⟨rfl, (hbel.setCell (by simp) _).setCell (by simp) _⟩
            simp [results, Tryz.results33, go_sem, r0, r1]
      · have hdn : ¬ (d : Int) < 0 := by omega
        by_cases h46 : s[k].toNat = 46
        · have h46' : (((s[k]).toNat : Int) == 46) = true := by simp; omega
          have h48 : ¬ (48 : Int) ≤ ((s[k]).toNat : Int) := by omega
          have hc46 : s[k] = 46 := (u8_eq (n := 46) (by decide)).2 h46
          have HN := Lib.hid (HZ.out (rstep_no (fun h => by cases h.2.1) (by rw [hc46]; decide)))
          clear HS HZ h46 hc46
          obtain rfl : X = ⟨0, 0, 2⟩ := by rw [← HX.out, HN.out]; rfl
          have hbel := hB.bel
          clear hB HX HR HN hrd hD hcn hcm
          go_wp2
          refine bodyPost_ret (v := .tuple #[.agg #[.int .i64 0, .int .i64 0], .int .i64 2]) ?_ rfl ⟨rfl, (hbel.setCell (by simp) _).setCell (by simp) _⟩
          simp [results, Tryz.results33, go_sem, r0, r1]
        · have h46' : (((s[k]).toNat : Int) == 46) = false := by simp; omega
          have hc46 : ¬ (s[k] = 46 ∧ (some d : Option Nat) = none ∧ 1 < k) := fun h => h46 ((u8_eq (n := 46) (by decide)).1 h.1)
          by_cases h48 : 48 ≤ s[k].toNat
          · have h48' : (48 : Int) ≤ ((s[k]).toNat : Int) := by omega
            by_cases h57 : s[k].toNat ≤ 57
            · have h57' : ((s[k]).toNat : Int) ≤ 57 := by omega
              have HN := Lib.hid (HS.out (_, _) (rstep_dig hc46 ((dq_iff _).2 ⟨h48, h57⟩)))
              have hDq : Digs (qv s[k] :: D) := fun x hx => by
                rcases List.mem_cons.1 hx with rfl | hx
                · exact qv_lt ((dq_iff _).2 ⟨h48, h57⟩)
                · exact hD x hx
              clear HS HZ hc46 h46 hD
              obtain ⟨q, hq⟩ : ∃ q : Nat, ((s[k].toNat : Nat) : Int) - 48 = (q : Int) := ⟨s[k].toNat - 48, by omega⟩
              have hqv : qv s[k] = q := by unfold qv; omega
              have hq9 : q ≤ 9 := by omega
              rw [hqv] at HN hDq
              have HN2 := Lib.hid HN.out
              clear HN
              have HN := HN2
              clear HN2
              have hl0 := hB.bel
              have hsz := hB.size
              have kB := hB.bk _ (.head _)
              have hwf : IntKind.u8.wrap (q : Int) = (q : Int) := by rw [IntKind.wrap_u8]; omega
              have hwg : IntKind.i64.wrap (q : Int) = (q : Int) := IntWalk.i64_in _ (by omega)
              have ho' : ((wr.alloc (.cells #[.int .i64 (q : Int)] 3)).drew).ownsRow wr.heap.size 3 1 (.slice (some ⟨wr.heap.size, 0, none⟩) 1 1) 1 (dcs [q]) := ⟨rfl, .inr ⟨wr.heap.size, 1, #[.int .i64 (q : Int)], rfl, Nat.le_refl _, heap_alloc_new wr _, Nat.le_refl _, by unfold maxLen; omega, rfl, by simp [dcs, iv]⟩⟩
              have hbN : Below wr.heap.size wr ((wr.alloc (.cells #[.int .i64 (q : Int)] 3)).drew) := ((Below.refl _ _).alloc (Nat.le_refl _) _).drew
              have hr' := hrd.below hbN
              have hn1 : 1 + n ≤ maxLen := by unfold maxLen; omega
              have hn2 : (1 + n) * 8 ≤ 140737488355328 := by omega
              have hsW : wr.heap.size ≤ ((wr.alloc (.cells #[.int .i64 (q : Int)] 3)).drew).heap.size := hbN.size
              have hone := dcs_one D
              have kA := kB.alloc (.cells #[.int .i64 (q : Int)] 3)
              have a0 := kA.cell 0
              have a1 := kA.cell 1
              have b0 := kA.frozen 0
              have b1 := kA.frozen 1
              clear kA
              go_wp2_with fail
              go_region_law (
                (refine step_app rowInts rfl (.tmp 67) (.tmp 69) rfl rfl rfl ho' hr' hone hn1 hn2 hsW ?_
                 intro v2 w2 o2 g2 b2_
                 obtain ⟨A2, c2, rfl, hnc2, hcm2, hrd2⟩ := own_form o2
                 have hbX := hbN.trans b2_
                 have hB2 := hB.call hbX
                 have kB2 := hB2.bk _ (.head _)
                 have f0 := kB2.cell 0
                 have f1 := kB2.cell 1
                 have g0 := kB2.frozen 0
                 have g1 := kB2.frozen 1))
              all_goals
                have o3 : w2.ownsRow wr.heap.size 3 1 (.slice A2 (1 + n) c2) (1 + n) (dcs (q :: D)) := by simpa [dcs, iv] using o2
                have hrd3 : Rd w2 w2.heap.size 1 A2 (1 + n) (dcs (q :: D)) := own_rd o3
                have hF := hB2.put1 (i := 0) rfl (by omega) (by simp [butBox] <;> omega) 1 (.slice A2 (1 + n) c2)
                have hrd4 := hrd3.boxset (i := 1) (u := .slice A2 (1 + n) c2) kB2 no_big
                clear f0 f1 g0 g1 kB2 o2 g2 b2_ hbX hB2 ho' hr' hbN
                go_wp2
                go_roundw
                case rel => exact ⟨k + 1, some d, q :: D, A2, 1 + n, c2, .inr ⟨d, rfl, rfl, by omega, by omega⟩, by go_num, by simpa [setBox] using hF, hnc2, hcm2, by simpa [World.setCell] using hrd4, by omega, by omega, by omega, hDq, HN⟩
                case measure => simp [Go.RowKit.intOf]; omega
            · have h57' : ¬ ((s[k]).toNat : Int) ≤ 57 := by omega
              have HN := Lib.hid (HZ.out (rstep_no hc46 (by rw [Bool.eq_false_iff]; exact fun h => h57 ((dq_iff _).1 h).2)))
              clear HS HZ hc46 h46 h57
              obtain rfl : X = ⟨0, 0, 2⟩ := by rw [← HX.out, HN.out]; rfl
              have hbel := hB.bel
              clear hB HX HR HN hrd hD hcn hcm
              go_wp2
              refine bodyPost_ret (v := .tuple #[.agg #[.int .i64 0, .int .i64 0], .int .i64 2]) ?_ rfl ⟨rfl, (hbel.setCell (by simp) _).setCell (by simp) _⟩
              simp [results, Tryz.results33, go_sem, r0, r1]
          · have h48' : ¬ (48 : Int) ≤ ((s[k]).toNat : Int) := by omega
            have HN := Lib.hid (HZ.out (rstep_no hc46 (by rw [Bool.eq_false_iff]; exact fun h => h48 ((dq_iff _).1 h).1)))
            clear HS HZ hc46 h46 h48
            obtain rfl : X = ⟨0, 0, 2⟩ := by rw [← HX.out, HN.out]; rfl
            have hbel := hB.bel
            clear hB HX HR HN hrd hD hcn hcm
            go_wp2
            refine bodyPost_ret (v := .tuple #[.agg #[.int .i64 0, .int .i64 0], .int .i64 2]) ?_ rfl ⟨rfl, (hbel.setCell (by simp) _).setCell (by simp) _⟩
            simp [results, Tryz.results33, go_sem, r0, r1]
    · have hk' : ¬ (k : Int) < (s.size : Int) := by omega
      obtain rfl : k = s.size := by omega
      have hRe : R = some (dot, D) := by
        have := HRR.out
        rw [List.drop_of_length_le (by rw [Array.length_toList]; exact Nat.le_refl _)] at this
        exact this.symm
      subst hRe
      have hXe := HX.out
      have hll : s.data.toList.length = s.size := Array.length_toList
      unfold refE at hXe
      clear HX HR HRR
      rcases hdot with ⟨rfl, rfl⟩ | ⟨d, rfl, rfl, hd0, hd1⟩
      · simp only [hll] at hXe
        by_cases h1 : s.size = 1
        · rw [if_pos (.inl (by omega))] at hXe
          subst hXe
          have h1a : (s.size : Int) = 1 := by omega
          have h1b : ((s.size : Int) - 1 == 0) = true := by rw [h1a]; rfl
          have hbel := hB.bel
          clear hB hrd hD hcn hcm
          go_wp2
          refine bodyPost_ret (v := .tuple #[.agg #[.int .i64 0, .int .i64 0], .int .i64 2]) ?_ rfl ⟨rfl, (hbel.setCell (by simp) _).setCell (by simp) _⟩
          simp [results, Tryz.results33, go_sem, r0, r1]
        · have hk1 : 1 < s.size := by omega
          have hix := idx_s s (i := 1) 1 rfl (by omega)
          rw [getD_s s 1 (by omega)] at hXe
          have hwN : ¬ s.size - 1 = 0 := by omega
          have hw0 : ((s.size : Int) - 1 == 0) = false := beq_eq_false_iff_ne.2 (by omega)
          have hw0' : ¬ (s.size : Int) - 1 = 0 := by omega
          have hm1 : ((-1 : Int) == (s.size : Int) - 1) = false := beq_eq_false_iff_ne.2 (by omega)
          have hm1' : ¬ (-1 : Int) = (s.size : Int) - 1 := by omega
          by_cases hc : s[1].toNat = 48
          · have hc' : (((s[1].toNat : Nat) : Int) == 48) = true := by simp; omega
            have hcu : s[1] = 48 := (u8_eq (n := 48) (by decide)).2 hc
            by_cases hw : 1 < s.size - 1
            · rw [if_pos (.inr ⟨hcu, hw⟩)] at hXe
              subst hXe
              clear hc hcu
              have hwI : (1 : Int) < (s.size : Int) - 1 := by omega
              have hbel := hB.bel
              clear hB hrd hD hcn hcm
              go_wp2
              refine bodyPost_ret (v := .tuple #[.agg #[.int .i64 0, .int .i64 0], .int .i64 2]) ?_ rfl ⟨rfl, (hbel.setCell (by simp) _).setCell (by simp) _⟩
              simp [results, Tryz.results33, go_sem, r0, r1]
            · rw [if_neg (by rintro (h | h); exact hwN h; exact hw h.2)] at hXe
              clear hc hcu
              have hwI : ¬ (1 : Int) < (s.size : Int) - 1 := by omega
              have HTR := Lib.hid (fun W (hy : BigV W (.agg #[.bool true, .slice A n c]) true D) => trim_any (w := W) hy)
              have HBV := Lib.hid (show BigV wr (.agg #[.bool true, .slice A n c]) true D from ⟨A, n, c, rfl, hcn, hcm, hrd⟩)
              have hNl : (digs (dval D)).length ≤ 5000 := digs_le hD (by have h2 : D.length = n := hrd.dlen.symm; omega)
              go_wp2_with fail
              refine (HTR.out _ HBV.out).mono ?_
              rintro x w4 ⟨yv, rfl, hy, hb⟩
              have hN0 := bigN_of hD rfl hy
              obtain ⟨A2, n2, c2, rfl, hnc2, hcm2, hrd2⟩ := hy
              have hB4 := hB.call hb
              clear hb hB HTR HBV hrd c0 c1 z0 z1 r0 r1 y0 y1 hcn hcm
              have hnn := (BigN.none hN0).2
              have hN1 := hN0.below ((Below.refl w4.heap.size w4).alloc (Nat.le_refl _) (.cells #[.bool (true && !(neat D).isEmpty), .slice A2 n2 c2] 98))
              have hB5 := hB4.alloc 98 #[.bool (true && !(neat D).isEmpty), .slice A2 n2 c2]
              clear hB4 hN0 hrd2 hnc2 hcm2
              have HSM : Hid (∀ W : World, BigN W (.agg #[.bool (true && !(neat D).isEmpty), .slice A2 n2 c2]) (sgn true (dval D)) → Calls Tryz.prog 56 #[.agg #[.bool (true && !(neat D).isEmpty), .slice A2 n2 c2], .int .i64 0] W fun e w' => e = .returned (dv (tl (sgn true (dval D)) 0)) ∧ Below W.heap.size W w') := Lib.hid (fun W hy => small_long (s := 0) hy (by rw [sgn_abs]; exact hNl) (by decide))
              rw [tl_sgn] at HSM
              have hn0 : n2 = 0 ↔ dval D = 0 := by rw [hnn]; unfold sgn; split <;> omega
              clear hnn hNl
              generalize (true && !(neat D).isEmpty) = b4 at *
              generalize hNN : dval D = N at *
              clear hNN hD
              unfold refN at hXe
              by_cases h0 : N = 0
              · obtain rfl : n2 = 0 := hn0.2 h0
                rw [if_pos ⟨h0, rfl, rfl⟩] at hXe
                subst hXe
                have hbel := hB5.bel
                have kM := hB5.bk _ (.head _)
                have kB := hB5.bk _ (.tail _ (.head _))
                have kR := hB5.bk _ (.tail _ (.tail _ (.head _)))
                have m0 := kM.cell 0
                have m1 := kM.cell 1
                have c0 := kB.cell 0
                have c1 := kB.cell 1
                have r0 := kR.cell 0
                have r1 := kR.cell 1
                have y0 := kR.frozen 0
                have y1 := kR.frozen 1
                clear kM kB kR
                clear hB5 hN1 HSM hn0 h0
                go_wp2
                refine bodyPost_ret (v := .tuple #[.agg #[.int .i64 0, .int .i64 0], .int .i64 2]) ?_ rfl ⟨rfl, (hbel.setCell (by simp) _).setCell (by simp) _⟩
                simp [results, Tryz.results33, go_sem, r0, r1]
              · have hn2 : ((n2 : Int) == 0) = false := beq_eq_false_iff_ne.2 (fun h => h0 (hn0.1 (by omega)))
                have hn2' : ¬ (n2 : Int) = 0 := fun h => h0 (hn0.1 (by omega))
                rw [if_neg (fun h => h0 h.1)] at hXe
                clear hn0
                have kM := hB5.bk _ (.head _)
                have kB := hB5.bk _ (.tail _ (.head _))
                have kR := hB5.bk _ (.tail _ (.tail _ (.head _)))
                have m0 := kM.cell 0
                have m1 := kM.cell 1
                have c0 := kB.cell 0
                have c1 := kB.cell 1
                have r0 := kR.cell 0
                have r1 := kR.cell 1
                have y0 := kR.frozen 0
                have y1 := kR.frozen 1
                clear kM kB kR
                by_cases hfit : N ≤ most (true && !(N == 0))
                · rw [if_pos hfit] at HSM hXe
                  unfold dv at HSM
                  generalize sgn (true && !(N == 0)) N = mm at *
                  clear hfit
                  go_wp2_with fail
                  refine (HSM.out _ hN1).mono ?_
                  rintro x w5 ⟨rfl, hb⟩
                  have hB6 := (hB5.call hb).alloc 27 #[.int .i64 mm, .int .i64 0]
                  have hz6 := (hB5.call hb).size
                  clear hb hB5 HSM hN1 m0 m1 c0 c1 r0 r1 y0 y1
                  have kM := hB6.bk _ (.head _)
                  have kR := hB6.bk _ (.tail _ (.tail _ (.tail _ (.head _))))
                  have m0 := kM.cell 0
                  have m1 := kM.cell 1
                  have r0 := kR.cell 0
                  have r1 := kR.cell 1
                  have y0 := kR.frozen 0
                  have y1 := kR.frozen 1
                  have hbel := hB6.bel
                  clear kM kR hB6
                  rw [if_neg (by omega)] at hXe
                  subst hXe
                  go_wp2
                  refine bodyPost_ret (v := .tuple #[.agg #[.int .i64 mm, .int .i64 0], .int .i64 0]) ?_ rfl ⟨rfl, (hbel.setCell (by simp) _).setCell (by simp) _⟩
                  simp [results, Tryz.results33, go_sem, r0, r1]
                · rw [if_neg hfit] at HSM hXe
                  unfold dv at HSM
                  subst hXe
                  clear hfit
                  go_wp2_with fail
                  refine (HSM.out _ hN1).mono ?_
                  rintro x w5 ⟨rfl, hb⟩
                  have hB6 := (hB5.call hb).alloc 27 #[.int .i64 0, .int .i64 0]
                  clear hb hB5 HSM hN1 m0 m1 c0 c1 r0 r1 y0 y1
                  have kM := hB6.bk _ (.head _)
                  have kR := hB6.bk _ (.tail _ (.tail _ (.tail _ (.head _))))
                  have m0 := kM.cell 0
                  have m1 := kM.cell 1
                  have r0 := kR.cell 0
                  have r1 := kR.cell 1
                  have y0 := kR.frozen 0
                  have y1 := kR.frozen 1
                  have hbel := hB6.bel
                  clear kM kR hB6
                  go_wp2
                  refine bodyPost_ret (v := .tuple #[.agg #[.int .i64 0, .int .i64 0], .int .i64 8]) ?_ rfl ⟨rfl, (hbel.setCell (by simp) _).setCell (by simp) _⟩
                  simp [results, Tryz.results33, go_sem, r0, r1]
          · have hc' : (((s[1].toNat : Nat) : Int) == 48) = false := by simp; omega
            have hcu : ¬ s[1] = 48 := fun h => hc (by rw [h]; rfl)
            rw [if_neg (by rintro (h | h); exact hwN h; exact hcu h.1)] at hXe
            clear hc hcu
            have HTR := Lib.hid (fun W (hy : BigV W (.agg #[.bool true, .slice A n c]) true D) => trim_any (w := W) hy)
            have HBV := Lib.hid (show BigV wr (.agg #[.bool true, .slice A n c]) true D from ⟨A, n, c, rfl, hcn, hcm, hrd⟩)
            have hNl : (digs (dval D)).length ≤ 5000 := digs_le hD (by have h2 : D.length = n := hrd.dlen.symm; omega)
            go_wp2_with fail
            refine (HTR.out _ HBV.out).mono ?_
            rintro x w4 ⟨yv, rfl, hy, hb⟩
            have hN0 := bigN_of hD rfl hy
            obtain ⟨A2, n2, c2, rfl, hnc2, hcm2, hrd2⟩ := hy
            have hB4 := hB.call hb
            clear hb hB HTR HBV hrd c0 c1 z0 z1 r0 r1 y0 y1 hcn hcm
            have hnn := (BigN.none hN0).2
            have hN1 := hN0.below ((Below.refl w4.heap.size w4).alloc (Nat.le_refl _) (.cells #[.bool (true && !(neat D).isEmpty), .slice A2 n2 c2] 98))
            have hB5 := hB4.alloc 98 #[.bool (true && !(neat D).isEmpty), .slice A2 n2 c2]
            clear hB4 hN0 hrd2 hnc2 hcm2
            have HSM : Hid (∀ W : World, BigN W (.agg #[.bool (true && !(neat D).isEmpty), .slice A2 n2 c2]) (sgn true (dval D)) → Calls Tryz.prog 56 #[.agg #[.bool (true && !(neat D).isEmpty), .slice A2 n2 c2], .int .i64 0] W fun e w' => e = .returned (dv (tl (sgn true (dval D)) 0)) ∧ Below W.heap.size W w') := Lib.hid (fun W hy => small_long (s := 0) hy (by rw [sgn_abs]; exact hNl) (by decide))
            rw [tl_sgn] at HSM
            have hn0 : n2 = 0 ↔ dval D = 0 := by rw [hnn]; unfold sgn; split <;> omega
            clear hnn hNl
            generalize (true && !(neat D).isEmpty) = b4 at *
            generalize hNN : dval D = N at *
            clear hNN hD
            unfold refN at hXe
            by_cases h0 : N = 0
            · obtain rfl : n2 = 0 := hn0.2 h0
              rw [if_pos ⟨h0, rfl, rfl⟩] at hXe
              subst hXe
              have hbel := hB5.bel
              have kM := hB5.bk _ (.head _)
              have kB := hB5.bk _ (.tail _ (.head _))
              have kR := hB5.bk _ (.tail _ (.tail _ (.head _)))
              have m0 := kM.cell 0
              have m1 := kM.cell 1
              have c0 := kB.cell 0
              have c1 := kB.cell 1
              have r0 := kR.cell 0
              have r1 := kR.cell 1
              have y0 := kR.frozen 0
              have y1 := kR.frozen 1
              clear kM kB kR
              clear hB5 hN1 HSM hn0 h0
              go_wp2
              refine bodyPost_ret (v := .tuple #[.agg #[.int .i64 0, .int .i64 0], .int .i64 2]) ?_ rfl ⟨rfl, (hbel.setCell (by simp) _).setCell (by simp) _⟩
              simp [results, Tryz.results33, go_sem, r0, r1]
            · have hn2 : ((n2 : Int) == 0) = false := beq_eq_false_iff_ne.2 (fun h => h0 (hn0.1 (by omega)))
              have hn2' : ¬ (n2 : Int) = 0 := fun h => h0 (hn0.1 (by omega))
              rw [if_neg (fun h => h0 h.1)] at hXe
              clear hn0
              have kM := hB5.bk _ (.head _)
              have kB := hB5.bk _ (.tail _ (.head _))
              have kR := hB5.bk _ (.tail _ (.tail _ (.head _)))
              have m0 := kM.cell 0
              have m1 := kM.cell 1
              have c0 := kB.cell 0
              have c1 := kB.cell 1
              have r0 := kR.cell 0
              have r1 := kR.cell 1
              have y0 := kR.frozen 0
              have y1 := kR.frozen 1
              clear kM kB kR
              by_cases hfit : N ≤ most (true && !(N == 0))
              · rw [if_pos hfit] at HSM hXe
                unfold dv at HSM
                generalize sgn (true && !(N == 0)) N = mm at *
                clear hfit
                go_wp2_with fail
                refine (HSM.out _ hN1).mono ?_
                rintro x w5 ⟨rfl, hb⟩
                have hB6 := (hB5.call hb).alloc 27 #[.int .i64 mm, .int .i64 0]
                have hz6 := (hB5.call hb).size
                clear hb hB5 HSM hN1 m0 m1 c0 c1 r0 r1 y0 y1
                have kM := hB6.bk _ (.head _)
                have kR := hB6.bk _ (.tail _ (.tail _ (.tail _ (.head _))))
                have m0 := kM.cell 0
                have m1 := kM.cell 1
                have r0 := kR.cell 0
                have r1 := kR.cell 1
                have y0 := kR.frozen 0
                have y1 := kR.frozen 1
                have hbel := hB6.bel
                clear kM kR hB6
                rw [if_neg (by omega)] at hXe
                subst hXe
                go_wp2
                refine bodyPost_ret (v := .tuple #[.agg #[.int .i64 mm, .int .i64 0], .int .i64 0]) ?_ rfl ⟨rfl, (hbel.setCell (by simp) _).setCell (by simp) _⟩
                simp [results, Tryz.results33, go_sem, r0, r1]
              · rw [if_neg hfit] at HSM hXe
                unfold dv at HSM
                subst hXe
                clear hfit
                go_wp2_with fail
                refine (HSM.out _ hN1).mono ?_
                rintro x w5 ⟨rfl, hb⟩
                have hB6 := (hB5.call hb).alloc 27 #[.int .i64 0, .int .i64 0]
                clear hb hB5 HSM hN1 m0 m1 c0 c1 r0 r1 y0 y1
                have kM := hB6.bk _ (.head _)
                have kR := hB6.bk _ (.tail _ (.tail _ (.tail _ (.head _))))
                have m0 := kM.cell 0
                have m1 := kM.cell 1
                have r0 := kR.cell 0
                have r1 := kR.cell 1
                have y0 := kR.frozen 0
                have y1 := kR.frozen 1
                have hbel := hB6.bel
                clear kM kR hB6
                go_wp2
                refine bodyPost_ret (v := .tuple #[.agg #[.int .i64 0, .int .i64 0], .int .i64 8]) ?_ rfl ⟨rfl, (hbel.setCell (by simp) _).setCell (by simp) _⟩
                simp [results, Tryz.results33, go_sem, r0, r1]
      · simp only [hll] at hXe
        have hdn : ¬ (d : Int) < 0 := by omega
        have hdp : (0 : Int) ≤ (d : Int) := by omega
        have hz0 : s.size - 1 < s.size := by omega
        by_cases hde : d + 1 = s.size
        · rw [if_pos (.inr (.inl hde))] at hXe
          subst hXe
          have hdI : ((d : Int) == (s.size : Int) - 1) = true := by simp; omega
          have hbel := hB.bel
          clear hB hrd hD hcn hcm
          go_wp2
          refine bodyPost_ret (v := .tuple #[.agg #[.int .i64 0, .int .i64 0], .int .i64 2]) ?_ rfl ⟨rfl, (hbel.setCell (by simp) _).setCell (by simp) _⟩
          simp [results, Tryz.results33, go_sem, r0, r1]
        · have hdI : ((d : Int) == (s.size : Int) - 1) = false := beq_eq_false_iff_ne.2 (by omega)
          have hix := idx_s s (i := 1) 1 rfl (by omega)
          have hiz := idx_s s (i := (s.size : Int) - 1) (s.size - 1) (by omega) hz0
          rw [getD_s s 1 (by omega), last_s s hz0] at hXe
          have hwN : ¬ d - 1 = 0 := by omega
          have hw0 : ((d : Int) - 1 == 0) = false := beq_eq_false_iff_ne.2 (by omega)
          have hw0' : ¬ (d : Int) - 1 = 0 := by omega
          have hp0 : ((s.size : Int) - (d : Int) - 1 == 0) = false := beq_eq_false_iff_ne.2 (by omega)
          have hp1 : (1 : Int) < (s.size : Int) - (d : Int) := by omega
          by_cases hc : s[1].toNat = 48
          · have hc' : (((s[1].toNat : Nat) : Int) == 48) = true := by simp; omega
            have hcu : s[1] = 48 := (u8_eq (n := 48) (by decide)).2 hc
            by_cases hw : 1 < d - 1
            · rw [if_pos (.inr (.inr ⟨hcu, hw⟩))] at hXe
              subst hXe
              clear hc hcu
              have hwI : (1 : Int) < (d : Int) - 1 := by omega
              have hbel := hB.bel
              clear hB hrd hD hcn hcm
              go_wp2
              refine bodyPost_ret (v := .tuple #[.agg #[.int .i64 0, .int .i64 0], .int .i64 2]) ?_ rfl ⟨rfl, (hbel.setCell (by simp) _).setCell (by simp) _⟩
              simp [results, Tryz.results33, go_sem, r0, r1]
            · rw [if_neg (by rintro (h | h | h); exact hwN h; exact hde h; exact hw h.2)] at hXe
              clear hc hcu
              have hwI : ¬ (1 : Int) < (d : Int) - 1 := by omega
              have HTR := Lib.hid (fun W (hy : BigV W (.agg #[.bool true, .slice A n c]) true D) => trim_any (w := W) hy)
              have HBV := Lib.hid (show BigV wr (.agg #[.bool true, .slice A n c]) true D from ⟨A, n, c, rfl, hcn, hcm, hrd⟩)
              have hNl : (digs (dval D)).length ≤ 5000 := digs_le hD (by have h2 : D.length = n := hrd.dlen.symm; omega)
              go_wp2_with fail
              refine (HTR.out _ HBV.out).mono ?_
              rintro x w4 ⟨yv, rfl, hy, hb⟩
              have hN0 := bigN_of hD rfl hy
              obtain ⟨A2, n2, c2, rfl, hnc2, hcm2, hrd2⟩ := hy
              have hB4 := hB.call hb
              clear hb hB HTR HBV hrd c0 c1 z0 z1 r0 r1 y0 y1 hcn hcm
              have hnn := (BigN.none hN0).2
              have hN1 := hN0.below ((Below.refl w4.heap.size w4).alloc (Nat.le_refl _) (.cells #[.bool (true && !(neat D).isEmpty), .slice A2 n2 c2] 98))
              have hB5 := hB4.alloc 98 #[.bool (true && !(neat D).isEmpty), .slice A2 n2 c2]
              clear hB4 hN0 hrd2 hnc2 hcm2
              have HSM : Hid (∀ W : World, BigN W (.agg #[.bool (true && !(neat D).isEmpty), .slice A2 n2 c2]) (sgn true (dval D)) → Calls Tryz.prog 56 #[.agg #[.bool (true && !(neat D).isEmpty), .slice A2 n2 c2], .int .i64 0] W fun e w' => e = .returned (dv (tl (sgn true (dval D)) 0)) ∧ Below W.heap.size W w') := Lib.hid (fun W hy => small_long (s := 0) hy (by rw [sgn_abs]; exact hNl) (by decide))
              rw [tl_sgn] at HSM
              have hn0 : n2 = 0 ↔ dval D = 0 := by rw [hnn]; unfold sgn; split <;> omega
              clear hnn hNl
              generalize (true && !(neat D).isEmpty) = b4 at *
              generalize hNN : dval D = N at *
              clear hNN hD
              unfold refN at hXe
              rw [if_neg (by rintro ⟨_, _, h2⟩; omega)] at hXe
              by_cases h0 : n2 = 0
              · subst h0
                clear hn0
                have kM := hB5.bk _ (.head _)
                have kB := hB5.bk _ (.tail _ (.head _))
                have kR := hB5.bk _ (.tail _ (.tail _ (.head _)))
                have m0 := kM.cell 0
                have m1 := kM.cell 1
                have c0 := kB.cell 0
                have c1 := kB.cell 1
                have r0 := kR.cell 0
                have r1 := kR.cell 1
                have y0 := kR.frozen 0
                have y1 := kR.frozen 1
                clear kM kB kR
                by_cases hfit : N ≤ most (true && !(N == 0))
                · rw [if_pos hfit] at HSM hXe
                  unfold dv at HSM
                  generalize sgn (true && !(N == 0)) N = mm at *
                  clear hfit
                  go_wp2_with fail
                  refine (HSM.out _ hN1).mono ?_
                  rintro x w5 ⟨rfl, hb⟩
                  have hB6 := (hB5.call hb).alloc 27 #[.int .i64 mm, .int .i64 0]
                  have hz6 := (hB5.call hb).size
                  clear hb hB5 HSM hN1 m0 m1 c0 c1 r0 r1 y0 y1
                  have kM := hB6.bk _ (.head _)
                  have kR := hB6.bk _ (.tail _ (.tail _ (.tail _ (.head _))))
                  have m0 := kM.cell 0
                  have m1 := kM.cell 1
                  have r0 := kR.cell 0
                  have r1 := kR.cell 1
                  have y0 := kR.frozen 0
                  have y1 := kR.frozen 1
                  have hbel := hB6.bel
                  clear kM kR hB6
                  by_cases h9 : 9 < s.size - d - 1
                  · have h9' : (9 : Int) < (s.size : Int) - (d : Int) - 1 := by omega
                    rw [if_pos (.inl h9)] at hXe
                    subst hXe
                    clear h9
                    go_wp2
                    refine bodyPost_ret (v := .tuple #[.agg #[.int .i64 0, .int .i64 0], .int .i64 1]) ?_ rfl ⟨rfl, (hbel.setCell (by simp) _).setCell (by simp) _⟩
                    simp [results, Tryz.results33, go_sem, r0, r1]
                  · have h9' : ¬ (9 : Int) < (s.size : Int) - (d : Int) - 1 := by omega
                    by_cases hz : s[s.size - 1].toNat = 48
                    · have hz' : (((s[s.size - 1].toNat : Nat) : Int) == 48) = true := by simp; omega
                      rw [decide_eq_true hz] at hXe
                      rw [if_pos (.inr ⟨by omega, rfl⟩)] at hXe
                      subst hXe
                      clear h9 hz
                      go_wp2
                      refine bodyPost_ret (v := .tuple #[.agg #[.int .i64 0, .int .i64 0], .int .i64 1]) ?_ rfl ⟨rfl, (hbel.setCell (by simp) _).setCell (by simp) _⟩
                      simp [results, Tryz.results33, go_sem, r0, r1]
                    · have hz' : (((s[s.size - 1].toNat : Nat) : Int) == 48) = false := by simp; omega
                      rw [decide_eq_false hz] at hXe
                      rw [if_neg (by rintro (h | ⟨-, h⟩); exact h9 h; cases h)] at hXe
                      subst hXe
                      have HPL := Lib.hid (show ((s.size : Int) - (d : Int) - 1) = ((s.size - d - 1 : Nat) : Int) by omega)
                      clear h9 hz
                      go_wp2
                      refine bodyPost_ret (v := .tuple #[.agg #[.int .i64 mm, .int .i64 ((s.size : Int) - (d : Int) - 1)], .int .i64 0]) ?_ rfl ⟨by rw [HPL.out]; rfl, (hbel.setCell (by simp) _).setCell (by simp) _⟩
                      simp [results, Tryz.results33, go_sem, r0, r1]
                · rw [if_neg hfit] at HSM hXe
                  unfold dv at HSM
                  subst hXe
                  clear hfit
                  go_wp2_with fail
                  refine (HSM.out _ hN1).mono ?_
                  rintro x w5 ⟨rfl, hb⟩
                  have hB6 := (hB5.call hb).alloc 27 #[.int .i64 0, .int .i64 0]
                  clear hb hB5 HSM hN1 m0 m1 c0 c1 r0 r1 y0 y1
                  have kM := hB6.bk _ (.head _)
                  have kR := hB6.bk _ (.tail _ (.tail _ (.tail _ (.head _))))
                  have m0 := kM.cell 0
                  have m1 := kM.cell 1
                  have r0 := kR.cell 0
                  have r1 := kR.cell 1
                  have y0 := kR.frozen 0
                  have y1 := kR.frozen 1
                  have hbel := hB6.bel
                  clear kM kR hB6
                  go_wp2
                  refine bodyPost_ret (v := .tuple #[.agg #[.int .i64 0, .int .i64 0], .int .i64 8]) ?_ rfl ⟨rfl, (hbel.setCell (by simp) _).setCell (by simp) _⟩
                  simp [results, Tryz.results33, go_sem, r0, r1]
              · have hn2 : ((n2 : Int) == 0) = false := beq_eq_false_iff_ne.2 (by omega)
                have hn2' : ¬ (n2 : Int) = 0 := by omega
                clear hn0 h0
                have kM := hB5.bk _ (.head _)
                have kB := hB5.bk _ (.tail _ (.head _))
                have kR := hB5.bk _ (.tail _ (.tail _ (.head _)))
                have m0 := kM.cell 0
                have m1 := kM.cell 1
                have c0 := kB.cell 0
                have c1 := kB.cell 1
                have r0 := kR.cell 0
                have r1 := kR.cell 1
                have y0 := kR.frozen 0
                have y1 := kR.frozen 1
                clear kM kB kR
                by_cases hfit : N ≤ most (true && !(N == 0))
                · rw [if_pos hfit] at HSM hXe
                  unfold dv at HSM
                  generalize sgn (true && !(N == 0)) N = mm at *
                  clear hfit
                  go_wp2_with fail
                  refine (HSM.out _ hN1).mono ?_
                  rintro x w5 ⟨rfl, hb⟩
                  have hB6 := (hB5.call hb).alloc 27 #[.int .i64 mm, .int .i64 0]
                  have hz6 := (hB5.call hb).size
                  clear hb hB5 HSM hN1 m0 m1 c0 c1 r0 r1 y0 y1
                  have kM := hB6.bk _ (.head _)
                  have kR := hB6.bk _ (.tail _ (.tail _ (.tail _ (.head _))))
                  have m0 := kM.cell 0
                  have m1 := kM.cell 1
                  have r0 := kR.cell 0
                  have r1 := kR.cell 1
                  have y0 := kR.frozen 0
                  have y1 := kR.frozen 1
                  have hbel := hB6.bel
                  clear kM kR hB6
                  by_cases h9 : 9 < s.size - d - 1
                  · have h9' : (9 : Int) < (s.size : Int) - (d : Int) - 1 := by omega
                    rw [if_pos (.inl h9)] at hXe
                    subst hXe
                    clear h9
                    go_wp2
                    refine bodyPost_ret (v := .tuple #[.agg #[.int .i64 0, .int .i64 0], .int .i64 1]) ?_ rfl ⟨rfl, (hbel.setCell (by simp) _).setCell (by simp) _⟩
                    simp [results, Tryz.results33, go_sem, r0, r1]
                  · have h9' : ¬ (9 : Int) < (s.size : Int) - (d : Int) - 1 := by omega
                    by_cases hz : s[s.size - 1].toNat = 48
                    · have hz' : (((s[s.size - 1].toNat : Nat) : Int) == 48) = true := by simp; omega
                      rw [decide_eq_true hz] at hXe
                      rw [if_pos (.inr ⟨by omega, rfl⟩)] at hXe
                      subst hXe
                      clear h9 hz
                      go_wp2
                      refine bodyPost_ret (v := .tuple #[.agg #[.int .i64 0, .int .i64 0], .int .i64 1]) ?_ rfl ⟨rfl, (hbel.setCell (by simp) _).setCell (by simp) _⟩
                      simp [results, Tryz.results33, go_sem, r0, r1]
                    · have hz' : (((s[s.size - 1].toNat : Nat) : Int) == 48) = false := by simp; omega
                      rw [decide_eq_false hz] at hXe
                      rw [if_neg (by rintro (h | ⟨-, h⟩); exact h9 h; cases h)] at hXe
                      subst hXe
                      have HPL := Lib.hid (show ((s.size : Int) - (d : Int) - 1) = ((s.size - d - 1 : Nat) : Int) by omega)
                      clear h9 hz
                      go_wp2
                      refine bodyPost_ret (v := .tuple #[.agg #[.int .i64 mm, .int .i64 ((s.size : Int) - (d : Int) - 1)], .int .i64 0]) ?_ rfl ⟨by rw [HPL.out]; rfl, (hbel.setCell (by simp) _).setCell (by simp) _⟩
                      simp [results, Tryz.results33, go_sem, r0, r1]
                · rw [if_neg hfit] at HSM hXe
                  unfold dv at HSM
                  subst hXe
                  clear hfit
                  go_wp2_with fail
                  refine (HSM.out _ hN1).mono ?_
                  rintro x w5 ⟨rfl, hb⟩
                  have hB6 := (hB5.call hb).alloc 27 #[.int .i64 0, .int .i64 0]
                  clear hb hB5 HSM hN1 m0 m1 c0 c1 r0 r1 y0 y1
                  have kM := hB6.bk _ (.head _)
                  have kR := hB6.bk _ (.tail _ (.tail _ (.tail _ (.head _))))
                  have m0 := kM.cell 0
                  have m1 := kM.cell 1
                  have r0 := kR.cell 0
                  have r1 := kR.cell 1
                  have y0 := kR.frozen 0
                  have y1 := kR.frozen 1
                  have hbel := hB6.bel
                  clear kM kR hB6
                  go_wp2
                  refine bodyPost_ret (v := .tuple #[.agg #[.int .i64 0, .int .i64 0], .int .i64 8]) ?_ rfl ⟨rfl, (hbel.setCell (by simp) _).setCell (by simp) _⟩
                  simp [results, Tryz.results33, go_sem, r0, r1]
          · have hc' : (((s[1].toNat : Nat) : Int) == 48) = false := by simp; omega
            have hcu : ¬ s[1] = 48 := fun h => hc (by rw [h]; rfl)
            rw [if_neg (by rintro (h | h | h); exact hwN h; exact hde h; exact hcu h.1)] at hXe
            clear hc hcu
            have HTR := Lib.hid (fun W (hy : BigV W (.agg #[.bool true, .slice A n c]) true D) => trim_any (w := W) hy)
            have HBV := Lib.hid (show BigV wr (.agg #[.bool true, .slice A n c]) true D from ⟨A, n, c, rfl, hcn, hcm, hrd⟩)
            have hNl : (digs (dval D)).length ≤ 5000 := digs_le hD (by have h2 : D.length = n := hrd.dlen.symm; omega)
            go_wp2_with fail
            refine (HTR.out _ HBV.out).mono ?_
            rintro x w4 ⟨yv, rfl, hy, hb⟩
            have hN0 := bigN_of hD rfl hy
            obtain ⟨A2, n2, c2, rfl, hnc2, hcm2, hrd2⟩ := hy
            have hB4 := hB.call hb
            clear hb hB HTR HBV hrd c0 c1 z0 z1 r0 r1 y0 y1 hcn hcm
            have hnn := (BigN.none hN0).2
            have hN1 := hN0.below ((Below.refl w4.heap.size w4).alloc (Nat.le_refl _) (.cells #[.bool (true && !(neat D).isEmpty), .slice A2 n2 c2] 98))
            have hB5 := hB4.alloc 98 #[.bool (true && !(neat D).isEmpty), .slice A2 n2 c2]
            clear hB4 hN0 hrd2 hnc2 hcm2
            have HSM : Hid (∀ W : World, BigN W (.agg #[.bool (true && !(neat D).isEmpty), .slice A2 n2 c2]) (sgn true (dval D)) → Calls Tryz.prog 56 #[.agg #[.bool (true && !(neat D).isEmpty), .slice A2 n2 c2], .int .i64 0] W fun e w' => e = .returned (dv (tl (sgn true (dval D)) 0)) ∧ Below W.heap.size W w') := Lib.hid (fun W hy => small_long (s := 0) hy (by rw [sgn_abs]; exact hNl) (by decide))
            rw [tl_sgn] at HSM
            have hn0 : n2 = 0 ↔ dval D = 0 := by rw [hnn]; unfold sgn; split <;> omega
            clear hnn hNl
            generalize (true && !(neat D).isEmpty) = b4 at *
            generalize hNN : dval D = N at *
            clear hNN hD
            unfold refN at hXe
            rw [if_neg (by rintro ⟨_, _, h2⟩; omega)] at hXe
            by_cases h0 : n2 = 0
            · subst h0
              clear hn0
              have kM := hB5.bk _ (.head _)
              have kB := hB5.bk _ (.tail _ (.head _))
              have kR := hB5.bk _ (.tail _ (.tail _ (.head _)))
              have m0 := kM.cell 0
              have m1 := kM.cell 1
              have c0 := kB.cell 0
              have c1 := kB.cell 1
              have r0 := kR.cell 0
              have r1 := kR.cell 1
              have y0 := kR.frozen 0
              have y1 := kR.frozen 1
              clear kM kB kR
              by_cases hfit : N ≤ most (true && !(N == 0))
              · rw [if_pos hfit] at HSM hXe
                unfold dv at HSM
                generalize sgn (true && !(N == 0)) N = mm at *
                clear hfit
                go_wp2_with fail
                refine (HSM.out _ hN1).mono ?_
                rintro x w5 ⟨rfl, hb⟩
                have hB6 := (hB5.call hb).alloc 27 #[.int .i64 mm, .int .i64 0]
                have hz6 := (hB5.call hb).size
                clear hb hB5 HSM hN1 m0 m1 c0 c1 r0 r1 y0 y1
                have kM := hB6.bk _ (.head _)
                have kR := hB6.bk _ (.tail _ (.tail _ (.tail _ (.head _))))
                have m0 := kM.cell 0
                have m1 := kM.cell 1
                have r0 := kR.cell 0
                have r1 := kR.cell 1
                have y0 := kR.frozen 0
                have y1 := kR.frozen 1
                have hbel := hB6.bel
                clear kM kR hB6
                by_cases h9 : 9 < s.size - d - 1
                · have h9' : (9 : Int) < (s.size : Int) - (d : Int) - 1 := by omega
                  rw [if_pos (.inl h9)] at hXe
                  subst hXe
                  clear h9
                  go_wp2
                  refine bodyPost_ret (v := .tuple #[.agg #[.int .i64 0, .int .i64 0], .int .i64 1]) ?_ rfl ⟨rfl, (hbel.setCell (by simp) _).setCell (by simp) _⟩
                  simp [results, Tryz.results33, go_sem, r0, r1]
                · have h9' : ¬ (9 : Int) < (s.size : Int) - (d : Int) - 1 := by omega
                  by_cases hz : s[s.size - 1].toNat = 48
                  · have hz' : (((s[s.size - 1].toNat : Nat) : Int) == 48) = true := by simp; omega
                    rw [decide_eq_true hz] at hXe
                    rw [if_pos (.inr ⟨by omega, rfl⟩)] at hXe
                    subst hXe
                    clear h9 hz
                    go_wp2
                    refine bodyPost_ret (v := .tuple #[.agg #[.int .i64 0, .int .i64 0], .int .i64 1]) ?_ rfl ⟨rfl, (hbel.setCell (by simp) _).setCell (by simp) _⟩
                    simp [results, Tryz.results33, go_sem, r0, r1]
                  · have hz' : (((s[s.size - 1].toNat : Nat) : Int) == 48) = false := by simp; omega
                    rw [decide_eq_false hz] at hXe
                    rw [if_neg (by rintro (h | ⟨-, h⟩); exact h9 h; cases h)] at hXe
                    subst hXe
                    have HPL := Lib.hid (show ((s.size : Int) - (d : Int) - 1) = ((s.size - d - 1 : Nat) : Int) by omega)
                    clear h9 hz
                    go_wp2
                    refine bodyPost_ret (v := .tuple #[.agg #[.int .i64 mm, .int .i64 ((s.size : Int) - (d : Int) - 1)], .int .i64 0]) ?_ rfl ⟨by rw [HPL.out]; rfl, (hbel.setCell (by simp) _).setCell (by simp) _⟩
                    simp [results, Tryz.results33, go_sem, r0, r1]
              · rw [if_neg hfit] at HSM hXe
                unfold dv at HSM
                subst hXe
                clear hfit
                go_wp2_with fail
                refine (HSM.out _ hN1).mono ?_
                rintro x w5 ⟨rfl, hb⟩
                have hB6 := (hB5.call hb).alloc 27 #[.int .i64 0, .int .i64 0]
                clear hb hB5 HSM hN1 m0 m1 c0 c1 r0 r1 y0 y1
                have kM := hB6.bk _ (.head _)
                have kR := hB6.bk _ (.tail _ (.tail _ (.tail _ (.head _))))
                have m0 := kM.cell 0
                have m1 := kM.cell 1
                have r0 := kR.cell 0
                have r1 := kR.cell 1
                have y0 := kR.frozen 0
                have y1 := kR.frozen 1
                have hbel := hB6.bel
                clear kM kR hB6
                go_wp2
                refine bodyPost_ret (v := .tuple #[.agg #[.int .i64 0, .int .i64 0], .int .i64 8]) ?_ rfl ⟨rfl, (hbel.setCell (by simp) _).setCell (by simp) _⟩
                simp [results, Tryz.results33, go_sem, r0, r1]
            · have hn2 : ((n2 : Int) == 0) = false := beq_eq_false_iff_ne.2 (by omega)
              have hn2' : ¬ (n2 : Int) = 0 := by omega
              clear hn0 h0
              have kM := hB5.bk _ (.head _)
              have kB := hB5.bk _ (.tail _ (.head _))
              have kR := hB5.bk _ (.tail _ (.tail _ (.head _)))
              have m0 := kM.cell 0
              have m1 := kM.cell 1
              have c0 := kB.cell 0
              have c1 := kB.cell 1
              have r0 := kR.cell 0
              have r1 := kR.cell 1
              have y0 := kR.frozen 0
              have y1 := kR.frozen 1
              clear kM kB kR
              by_cases hfit : N ≤ most (true && !(N == 0))
              · rw [if_pos hfit] at HSM hXe
                unfold dv at HSM
                generalize sgn (true && !(N == 0)) N = mm at *
                clear hfit
                go_wp2_with fail
                refine (HSM.out _ hN1).mono ?_
                rintro x w5 ⟨rfl, hb⟩
                have hB6 := (hB5.call hb).alloc 27 #[.int .i64 mm, .int .i64 0]
                have hz6 := (hB5.call hb).size
                clear hb hB5 HSM hN1 m0 m1 c0 c1 r0 r1 y0 y1
                have kM := hB6.bk _ (.head _)
                have kR := hB6.bk _ (.tail _ (.tail _ (.tail _ (.head _))))
                have m0 := kM.cell 0
                have m1 := kM.cell 1
                have r0 := kR.cell 0
                have r1 := kR.cell 1
                have y0 := kR.frozen 0
                have y1 := kR.frozen 1
                have hbel := hB6.bel
                clear kM kR hB6
                by_cases h9 : 9 < s.size - d - 1
                · have h9' : (9 : Int) < (s.size : Int) - (d : Int) - 1 := by omega
                  rw [if_pos (.inl h9)] at hXe
                  subst hXe
                  clear h9
                  go_wp2
                  refine bodyPost_ret (v := .tuple #[.agg #[.int .i64 0, .int .i64 0], .int .i64 1]) ?_ rfl ⟨rfl, (hbel.setCell (by simp) _).setCell (by simp) _⟩
                  simp [results, Tryz.results33, go_sem, r0, r1]
                · have h9' : ¬ (9 : Int) < (s.size : Int) - (d : Int) - 1 := by omega
                  by_cases hz : s[s.size - 1].toNat = 48
                  · have hz' : (((s[s.size - 1].toNat : Nat) : Int) == 48) = true := by simp; omega
                    rw [decide_eq_true hz] at hXe
                    rw [if_pos (.inr ⟨by omega, rfl⟩)] at hXe
                    subst hXe
                    clear h9 hz
                    go_wp2
                    refine bodyPost_ret (v := .tuple #[.agg #[.int .i64 0, .int .i64 0], .int .i64 1]) ?_ rfl ⟨rfl, (hbel.setCell (by simp) _).setCell (by simp) _⟩
                    simp [results, Tryz.results33, go_sem, r0, r1]
                  · have hz' : (((s[s.size - 1].toNat : Nat) : Int) == 48) = false := by simp; omega
                    rw [decide_eq_false hz] at hXe
                    rw [if_neg (by rintro (h | ⟨-, h⟩); exact h9 h; cases h)] at hXe
                    subst hXe
                    have HPL := Lib.hid (show ((s.size : Int) - (d : Int) - 1) = ((s.size - d - 1 : Nat) : Int) by omega)
                    clear h9 hz
                    go_wp2
                    refine bodyPost_ret (v := .tuple #[.agg #[.int .i64 mm, .int .i64 ((s.size : Int) - (d : Int) - 1)], .int .i64 0]) ?_ rfl ⟨by rw [HPL.out]; rfl, (hbel.setCell (by simp) _).setCell (by simp) _⟩
                    simp [results, Tryz.results33, go_sem, r0, r1]
              · rw [if_neg hfit] at HSM hXe
                unfold dv at HSM
                subst hXe
                clear hfit
                go_wp2_with fail
                refine (HSM.out _ hN1).mono ?_
                rintro x w5 ⟨rfl, hb⟩
                have hB6 := (hB5.call hb).alloc 27 #[.int .i64 0, .int .i64 0]
                clear hb hB5 HSM hN1 m0 m1 c0 c1 r0 r1 y0 y1
                have kM := hB6.bk _ (.head _)
                have kR := hB6.bk _ (.tail _ (.tail _ (.tail _ (.head _))))
                have m0 := kM.cell 0
                have m1 := kM.cell 1
                have r0 := kR.cell 0
                have r1 := kR.cell 1
                have y0 := kR.frozen 0
                have y1 := kR.frozen 1
                have hbel := hB6.bel
                clear kM kR hB6
                go_wp2
                refine bodyPost_ret (v := .tuple #[.agg #[.int .i64 0, .int .i64 0], .int .i64 8]) ?_ rfl ⟨rfl, (hbel.setCell (by simp) _).setCell (by simp) _⟩
                simp [results, Tryz.results33, go_sem, r0, r1]
end Go.Proofs.YtmbjmgmnicacpaaGreatDoor
