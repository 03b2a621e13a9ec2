/- dec's whole numbers of 128 bits: drop, shorten by their contracts. Condition: within the bits. -/
import Derived.Test.YtgepipapppdhfaaGreatDoorW3
namespace Go.Proofs.YtgepipapppdhfaaGreatDoor
open Go.RowKit

/-- The digit that was dropped last. -/
def dig (n : Nat) : Nat → Nat
  | 0 => 0
  | j + 1 => n / 10 ^ j % 10
theorem rnd_dig (n k : Nat) : rnd n k = n / 10 ^ k + if 5 ≤ dig n k then 1 else 0 := by
  cases k with
  | zero => simp [rnd, dig]
  | succ k => rfl

/-- The three cells of a number. -/
def wc3 (b : Bool) (n : Nat) : Array Value := #[.bool b, .int .u64 (hi n : Nat), .int .u64 (lo n : Nat)]

theorem SB.swap {w W : World} {n : Nat} {x y : Nat × TypeId × Array Value} (h : SB w n [x, y] W) : SB w n [y, x] W :=
  ⟨h.bel, h.size, fun z hz => h.bk z (by simp at hz ⊢; rcases hz with h | h <;> simp [h])⟩

set_option maxRecDepth 100000 in
theorem drop_any {w : World} {b : Bool} {n k : Nat} (hn : n + 1 < 340282366920938463463374607431768211456) (hk : k ≤ 1000) :
    Calls Tryz.prog 35 #[wd b n, .int .i64 k] w fun e w' => e = .returned (wd b (rnd n k)) ∧ Below w.heap.size w w' := by
  have H0 : Hid (SB w 2 [(w.heap.size, 46, wc3 b (n / 10 ^ 0)), (w.heap.size + 1, 46, #[.bool false, .int .u64 0, .int .u64 0])] ((w.alloc (.cells #[.bool b, .int .u64 (hi n : Nat), .int .u64 (lo n : Nat)] 46)).alloc (.cells #[.bool false, .int .u64 0, .int .u64 0] 46))) := Lib.hid (by
    rw [show n / 10 ^ 0 = n by simp]
    exact ((sb1 w 46 _).push (by simp) 46 _).swap)
  have hq : ∀ j, n / 10 ^ j + 1 < 340282366920938463463374607431768211456 := fun j => by have := Nat.div_le_self n (10 ^ j); omega
  have HQ := Lib.hid hq
  have HR := Lib.hid (rnd_dig n k)
  clear hq hn
  rw [wd_parts b n]
  go_enter Tryz.func35, Tryz.ntmps35
  go_wp2
  go_loopw [5, 7] (fun d i wr => ∃ j : Nat, j ≤ k ∧ i = .int .i64 j ∧ d = .int .u64 (dig n j : Nat) ∧ SB w 2 [(w.heap.size, 46, wc3 b (n / 10 ^ j)), (w.heap.size + 1, 46, #[.bool false, .int .u64 0, .int .u64 0])] wr) (fun _ i _ => k - (intOf i).toNat)
  case atStart => exact ⟨0, Nat.zero_le _, rfl, rfl, H0.out⟩
  case round =>
    obtain ⟨j, hj, rfl, rfl, hB⟩ := hrel
    clear H0
    have k1 := hB.bk _ (List.mem_cons_self ..)
    have k2 := hB.bk _ (List.mem_cons_of_mem _ (List.mem_cons_self ..))
    unfold wc3 at k1
    have c10 := k1.cell 0
    have c11 := k1.cell 1
    have c12 := k1.cell 2
    have HB := Lib.hid hB
    by_cases hjk : j < k
    · have hjk' : (j : Int) < (k : Int) := by omega
      clear hB k1 k2
      go_wp2_with fail
      refine (over_any (b := b) (n := n / 10 ^ j) (k := 10) (by have := HQ.out j; omega) (by decide) (by decide)).mono ?_
      rintro e w1 ⟨rfl, hb⟩
      obtain ⟨y, hy⟩ : ∃ y, n / 10 ^ j % 10 = y := ⟨_, rfl⟩
      rw [hy]
      have HY := Lib.hid (show dig n (j + 1) = y from hy)
      clear hy
      have hB1 := HB.out.call hb
      clear hb HB c10 c11 c12
      have k1 := hB1.bk _ (List.mem_cons_self ..)
      unfold wc3 at k1
      have z10 := k1.frozen 0
      have z11 := k1.frozen 1
      have z12 := k1.frozen 2
      have c10 := k1.cell 0
      have c11 := k1.cell 1
      have c12 := k1.cell 2
      have hlt : ∀ x ∈ ([(w.heap.size + 1, 46, #[.bool false, .int .u64 0, .int .u64 0])] : List (Nat × TypeId × Array Value)), x.1 ≠ w.heap.size := by simp
      have HF := Lib.hid (SB.set3 hB1 (Nat.le_refl _) hlt (.bool b) (.int .u64 (hi (n / 10 ^ j / 10) : Nat)) (.int .u64 (lo (n / 10 ^ j / 10) : Nat)))
      have HE := Lib.hid (rnd_step n j)
      rw [wd_parts]
      clear k1 hB1 hlt
      go_wp2_with fail
      go_roundw
      case rel =>
        refine ⟨j + 1, by omega, by go_num, by rw [HY.out], ?_⟩
        unfold wc3
        rw [HE.out]
        exact HF.out
      case measure => simp [intOf]; omega
    · have hjk2 : j = k := by omega
      subst hjk2
      have z20 := k2.frozen 0
      have z21 := k2.frozen 1
      have z22 := k2.frozen 2
      have c20 := k2.cell 0
      have c21 := k2.cell 1
      have c22 := k2.cell 2
      by_cases h5 : 5 ≤ dig n j
      · have h5' : (5 : Int) ≤ ((dig n j : Nat) : Int) := by omega
        have HV := Lib.hid (show rnd n j = n / 10 ^ j + 1 by rw [HR.out, if_pos h5])
        clear hB k1 k2 h5
        go_wp2_with fail
        refine (grow_any (b := b) (n := n / 10 ^ j) (HQ.out j)).mono ?_
        rintro e w1 ⟨rfl, hb⟩
        have hB1 := HB.out.call hb
        clear hb HB c10 c11 c12 z20 z21 z22 c20 c21 c22
        have k2 := hB1.bk _ (List.mem_cons_of_mem _ (List.mem_cons_self ..))
        have hbel := hB1.bel
        have z20 := k2.frozen 0
        have z21 := k2.frozen 1
        have z22 := k2.frozen 2
        have c20 := k2.cell 0
        have c21 := k2.cell 1
        have c22 := k2.cell 2
        rw [wd_parts]
        clear k2 hB1
        go_wp2
        refine bodyPost_ret (v := wd b (n / 10 ^ j + 1)) ?_ rfl ⟨by rw [HV.out], ((hbel.setCell (by simp) _).setCell (by simp) _).setCell (by simp) _⟩
        rw [wd_parts]
        simp [results, Tryz.results35, go_sem, c20, c21, c22]
      · have h5' : ((dig n j : Nat) : Int) < 5 := by omega
        have HV := Lib.hid (show rnd n j = n / 10 ^ j by rw [HR.out, if_neg h5, Nat.add_zero])
        have hbel := hB.bel
        clear hB k1 k2 h5
        go_wp2
        refine bodyPost_ret (v := wd b (n / 10 ^ j)) ?_ rfl ⟨by rw [HV.out], ((hbel.setCell (by simp) _).setCell (by simp) _).setCell (by simp) _⟩
        rw [wd_parts]
        simp [results, Tryz.results35, go_sem, c20, c21, c22]
theorem strip_b {s m s' n : Nat} (h : strip s' m = strip s n) (hd : s' = 0 ∨ m % 10 ≠ 0) : (strip s n).1 = m ∧ (strip s n).2 = s' := by
  rw [← h, strip_id hd]; exact ⟨rfl, rfl⟩

set_option maxRecDepth 100000 in
theorem shorten_any {w : World} {b : Bool} {n s : Nat} (hn : n < 340282366920938463463374607431768211456) (hs : s ≤ 1000) :
    Calls Tryz.prog 56 #[wd b n, .int .i64 s] w fun e w' => e = .returned (.tuple #[wd b (strip s n).1, .int .i64 ((strip s n).2 : Nat)]) ∧ Below w.heap.size w w' := by
  have H0 : Hid (SB w 2 [(w.heap.size, 46, wc3 b n), (w.heap.size + 1, 46, #[.bool false, .int .u64 0, .int .u64 0])] ((w.alloc (.cells #[.bool b, .int .u64 (hi n : Nat), .int .u64 (lo n : Nat)] 46)).alloc (.cells #[.bool false, .int .u64 0, .int .u64 0] 46))) := Lib.hid
    ((sb1 w 46 _).push (by simp) 46 _).swap
  by_cases hz : n = 0
  · have HZ := Lib.hid (show decide (n = 0) = true by simp [hz])
    have HV := Lib.hid (show (strip s n).1 = n ∧ (strip s n).2 = 0 by rw [hz, strip_zero]; exact ⟨rfl, rfl⟩)
    clear hz hn
    rw [wd_parts b n]
    go_enter Tryz.func56, Tryz.ntmps56
    go_wp2_with fail
    refine (isZero_any (b := b) (n := n)).mono ?_
    rintro e w1 ⟨rfl, hb⟩
    rw [HZ.out]
    have hB := H0.out.call hb
    clear H0 hb
    have k1 := hB.bk _ (List.mem_cons_self ..)
    have k2 := hB.bk _ (List.mem_cons_of_mem _ (List.mem_cons_self ..))
    have hbel := hB.bel
    unfold wc3 at k1
    have c10 := k1.cell 0
    have c11 := k1.cell 1
    have c12 := k1.cell 2
    have z20 := k2.frozen 0
    have z21 := k2.frozen 1
    have z22 := k2.frozen 2
    have c20 := k2.cell 0
    have c21 := k2.cell 1
    have c22 := k2.cell 2
    clear hB k1 k2
    go_wp2
    refine bodyPost_ret (v := .tuple #[wd b n, .int .i64 0]) ?_ rfl ⟨by rw [HV.out.1, HV.out.2]; rfl, ((hbel.setCell (by simp) _).setCell (by simp) _).setCell (by simp) _⟩
    rw [wd_parts]
    simp [results, Tryz.results56, go_sem, c20, c21, c22]
  · have HZ := Lib.hid (show decide (n = 0) = false by simp [hz])
    have HN := Lib.hid hn
    clear hz hn
    rw [wd_parts b n]
    go_enter Tryz.func56, Tryz.ntmps56
    go_wp2_with fail
    refine (isZero_any (b := b) (n := n)).mono ?_
    rintro e w1 ⟨rfl, hb⟩
    rw [HZ.out]
    have HB1 := Lib.hid (H0.out.call hb)
    clear H0 hb
    go_wp2
    go_loopw [1] (fun t wr => ∃ s' m : Nat, t = .int .i64 s' ∧ s' ≤ s ∧ m ≤ n ∧ strip s' m = strip s n ∧ SB w 2 [(w.heap.size, 46, wc3 b m), (w.heap.size + 1, 46, #[.bool false, .int .u64 0, .int .u64 0])] wr) (fun t _ => (intOf t).toNat)
    case atStart => exact ⟨s, n, rfl, Nat.le_refl _, Nat.le_refl _, rfl, HB1.out⟩
    case round =>
      obtain ⟨s', m, rfl, hss, hmn, hst, hB⟩ := hrel
      clear HB1
      have k1 := hB.bk _ (List.mem_cons_self ..)
      have k2 := hB.bk _ (List.mem_cons_of_mem _ (List.mem_cons_self ..))
      have hbel := hB.bel
      unfold wc3 at k1
      have c10 := k1.cell 0
      have c11 := k1.cell 1
      have c12 := k1.cell 2
      have HB := Lib.hid hB
      have HST := Lib.hid hst
      by_cases h0 : 0 < s'
      · have h0' : (0 : Int) < (s' : Int) := by omega
        clear hB k1 k2 hst
        go_wp2_with fail
        refine (over_any (b := b) (n := m) (k := 10) (by have := HN.out; omega) (by decide) (by decide)).mono ?_
        rintro e w1 ⟨rfl, hb⟩
        obtain ⟨y, hy⟩ : ∃ y, m % 10 = y := ⟨_, rfl⟩
        obtain ⟨x, hx⟩ : ∃ x, m / 10 = x := ⟨_, rfl⟩
        rw [hy, hx, wd_parts]
        have HY := Lib.hid hy
        have HX := Lib.hid hx
        clear hy hx hbel
        have hB1 := (HB.out.call hb).alloc 46 #[.bool b, .int .u64 (hi x : Nat), .int .u64 (lo x : Nat)]
        have HB1 := Lib.hid hB1.tail
        have hsz := hB1.tail.size
        have hsz1 := (HB.out.call hb).size
        clear hb HB c10 c11 c12
        by_cases hy0 : 0 < y
        · have hy0' : (0 : Int) < (y : Int) := by omega
          have HV := Lib.hid (strip_b HST.out (.inr (by rw [HY.out]; omega)))
          have k1 := HB1.out.bk _ (List.mem_cons_self ..)
          have k2 := HB1.out.bk _ (List.mem_cons_of_mem _ (List.mem_cons_self ..))
          have hbel := HB1.out.bel
          unfold wc3 at k1
          have c10 := k1.cell 0
          have c11 := k1.cell 1
          have c12 := k1.cell 2
          have z20 := k2.frozen 0
          have z21 := k2.frozen 1
          have z22 := k2.frozen 2
          have c20 := k2.cell 0
          have c21 := k2.cell 1
          have c22 := k2.cell 2
          clear k1 k2 hB1 HB1
          go_wp2_with fail
          refine bodyPost_ret (v := .tuple #[wd b m, .int .i64 (s' : Int)]) ?_ rfl ⟨by rw [HV.out.1, HV.out.2], ((hbel.setCell (by simp) _).setCell (by simp) _).setCell (by simp) _⟩
          rw [wd_parts]
          simp [results, Tryz.results56, go_sem, c20, c21, c22]
        · have hy0' : y = 0 := by omega
          subst hy0'
          have k0 := hB1.bk _ (List.mem_cons_self ..)
          have k1 := HB1.out.bk _ (List.mem_cons_self ..)
          unfold wc3 at k1
          have d0 := k0.cell 0
          have d1 := k0.cell 1
          have d2 := k0.cell 2
          have c10 := k1.cell 0
          have c11 := k1.cell 1
          have c12 := k1.cell 2
          have z10 := k1.frozen 0
          have z11 := k1.frozen 1
          have z12 := k1.frozen 2
          have hlt : ∀ x ∈ ([(w.heap.size + 1, 46, #[.bool false, .int .u64 0, .int .u64 0])] : List (Nat × TypeId × Array Value)), x.1 ≠ w.heap.size := by simp
          have hB2 := HB1.out
          unfold wc3 at hB2
          have HF := Lib.hid (SB.set3 hB2 (Nat.le_refl _) hlt (.bool b) (.int .u64 (hi x : Nat)) (.int .u64 (lo x : Nat)))
          have HS := Lib.hid (show strip (s' - 1) x = strip s n by
            rw [← HST.out]
            obtain ⟨t, rfl⟩ : ∃ t, s' = t + 1 := ⟨s' - 1, by omega⟩
            rw [strip, if_pos HY.out, HX.out, Nat.add_sub_cancel])
          clear k0 k1 hB1 hB2 HB1 hlt
          go_wp2_with fail
          go_roundw
          case rel =>
            refine ⟨s' - 1, x, by rw [Int.natCast_sub (by omega)]; rfl, by omega, by have := HX.out; omega, HS.out, ?_⟩
            unfold wc3
            exact HF.out
          case measure => simp [intOf]; omega
      · have h0' : s' = 0 := by omega
        subst h0'
        have HV := Lib.hid (strip_b hst (.inl rfl))
        have z20 := k2.frozen 0
        have z21 := k2.frozen 1
        have z22 := k2.frozen 2
        have c20 := k2.cell 0
        have c21 := k2.cell 1
        have c22 := k2.cell 2
        clear hB k1 k2 hst
        go_wp2_with fail
        refine bodyPost_ret (v := .tuple #[wd b m, .int .i64 0]) ?_ rfl ⟨by rw [HV.out.1, HV.out.2]; rfl, ((hbel.setCell (by simp) _).setCell (by simp) _).setCell (by simp) _⟩
        rw [wd_parts]
        simp [results, Tryz.results56, go_sem, c20, c21, c22]
end Go.Proofs.YtgepipapppdhfaaGreatDoor
