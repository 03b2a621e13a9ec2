/- dec's whole numbers of 128 bits: over, drop, shorten by their contracts. Condition: within the bits. -/
import Derived.Test.YtgepipapppdhfaaGreatDoorDiv64
import Derived.Test.YtgepipapppdhfaaGreatDoorBox
namespace Go.Proofs.YtgepipapppdhfaaGreatDoor
open Go.RowKit

theorem div64_any {w : World} {h l y : Nat} (hl : l < 18446744073709551616) (hy : y < 18446744073709551616) (hhy : h < y) :
    Calls Tryz.prog 63 #[.int .u64 h, .int .u64 l, .int .u64 y] w fun e w' => e = .returned (.tuple #[.int .u64 ((h * 18446744073709551616 + l) / y : Nat), .int .u64 ((h * 18446744073709551616 + l) % y : Nat)]) ∧ ∃ n, w' = w.drewN n := by
  rcases Nat.eq_zero_or_pos h with rfl | h0
  · have := div64_low (w := w) hl hy hhy
    rw [Nat.zero_mul, Nat.zero_add]
    exact this.mono fun e w' ⟨h1, h2⟩ => ⟨h1, 1, h2⟩
  · exact (div64_high hl hy h0 hhy).mono fun e w' ⟨h1, h2⟩ => ⟨h1, 0, h2.symm⟩

/-- A quotient's halves. -/
theorem hl_div {n k : Nat} (hn : n < 340282366920938463463374607431768211456) (h0 : 0 < k) :
    hi (n / k) = hi n / k ∧ lo (n / k) = (hi n % k * 18446744073709551616 + lo n) / k ∧ n % k = (hi n % k * 18446744073709551616 + lo n) % k := by
  have e : n = (hi n % k * 18446744073709551616 + lo n) + k * (hi n / k * 18446744073709551616) := by
    have h1 := Nat.div_add_mod (hi n) k
    have h2 := hi_lo n
    have h3 : k * (hi n / k * 18446744073709551616) = k * (hi n / k) * 18446744073709551616 := (Nat.mul_assoc ..).symm
    omega
  have hlt : (hi n % k * 18446744073709551616 + lo n) / k < 18446744073709551616 := by
    refine (Nat.div_lt_iff_lt_mul h0).2 ?_
    have h1 := Nat.mod_lt (hi n) h0
    have h2 := lo_lt n
    omega
  have e1 : n / k = (hi n % k * 18446744073709551616 + lo n) / k + hi n / k * 18446744073709551616 := by
    conv => lhs; rw [e]
    rw [Nat.add_mul_div_left _ _ h0]
  refine ⟨?_, ?_, ?_⟩
  · show n / k / 18446744073709551616 = _
    rw [e1]
    generalize (hi n % k * 18446744073709551616 + lo n) / k = x at *
    generalize hi n / k = y at *
    omega
  · show n / k % 18446744073709551616 = _
    rw [e1]
    generalize (hi n % k * 18446744073709551616 + lo n) / k = x at *
    generalize hi n / k = y at *
    omega
  · conv => lhs; rw [e]
    rw [Nat.add_mul_mod_self_left]

set_option maxRecDepth 100000 in
theorem over_any {w : World} {b : Bool} {n k : Nat} (hn : n < 340282366920938463463374607431768211456) (hk : k < 18446744073709551616) (h0 : 0 < k) :
    Calls Tryz.prog 39 #[wd b n, .int .u64 k] w fun e w' => e = .returned (.tuple #[wd b (n / k), .int .u64 (n % k : Nat)]) ∧ Below w.heap.size w w' := by
  obtain ⟨h1, h2, h3⟩ := hl_div hn h0
  have hkz : ((k : Int) == 0) = false := by simp; omega
  have hk1 : 1 ≤ (k : Int) := by omega
  have HD := Lib.hid (fun w : World => div64_any (w := w) (lo_lt n) hk (Nat.mod_lt (hi n) h0))
  have hq : IntKind.u64.wrap ((hi n / k : Nat) : Int) = ((hi n / k : Nat) : Int) := by
    have h4 := Nat.div_le_self (hi n) k
    have h5 := hi_lt hn
    generalize hi n / k = x at *
    exact IntWalk.u64_in _ (by omega)
  have D1 : ((hi n : Nat) : Int) / (k : Int) = ((hi n / k : Nat) : Int) := rfl
  have D2 : ((hi n : Nat) : Int) % (k : Int) = ((hi n % k : Nat) : Int) := rfl
  rw [wd_parts b n, wd_parts b (n / k), h1, h2, h3]
  clear h1 h2 h3 hn hk h0
  generalize (hi n % k * 18446744073709551616 + lo n) / k = x at *
  generalize (hi n % k * 18446744073709551616 + lo n) % k = y at *
  generalize hi n % k = r at *
  generalize hi n / k = q at *
  go_enter Tryz.func39, Tryz.ntmps39
  go_wp2
  go_quiet ((go_at_call 63; exact Calls.quiet_of (HD.out _)))
  have hb := below_drewN (Below.refl ((w.alloc (.cells #[.bool b, .int .u64 (hi n : Nat), .int .u64 (lo n : Nat)] 46)).alloc (.cells #[.bool false, .int .u64 0, .int .u64 0] 46)).heap.size ((w.alloc (.cells #[.bool b, .int .u64 (hi n : Nat), .int .u64 (lo n : Nat)] 46)).alloc (.cells #[.bool false, .int .u64 0, .int .u64 0] 46))) nq
  generalize ((w.alloc (.cells #[.bool b, .int .u64 (hi n : Nat), .int .u64 (lo n : Nat)] 46)).alloc (.cells #[.bool false, .int .u64 0, .int .u64 0] 46)).drewN nq = W at *
  have HSB : Hid (SB w 2 ([((w.heap.size + 1), 46, #[.bool false, .int .u64 0, .int .u64 0]), (w.heap.size, 46, #[.bool b, .int .u64 (hi n : Nat), .int .u64 (lo n : Nat)])] : List (Nat × TypeId × Array Value)) W) := Lib.hid (by
    obtain ⟨k1, k2, hb', hsz⟩ := bx2 hb
    refine ⟨hb', hsz, fun x hx => ?_⟩
    rcases List.mem_cons.1 hx with rfl | hx
    · exact k2
    · obtain rfl := List.mem_singleton.1 hx
      exact k1)
  have HD1 := Lib.hid D1
  have HQ := Lib.hid hq
  have HK1 := Lib.hid hk1
  have HKZ := Lib.hid hkz
  clear hb D1 D2 hq hk1 hkz
  go_wp2
  refine wp_region_phases (S := (S1 w 2 ([((w.heap.size + 1), 46, #[.bool false, .int .u64 0, .int .u64 0]), (w.heap.size, 46, #[.bool b, .int .u64 (hi n : Nat), .int .u64 (lo n : Nat)])] : List (Nat × TypeId × Array Value)) ([((w.heap.size + 1), 46, #[.bool b, .int .u64 (q : Int), .int .u64 (x : Int)]), (w.heap.size, 46, #[.bool b, .int .u64 (hi n : Nat), .int .u64 (lo n : Nat)])] : List (Nat × TypeId × Array Value)))) (E := (fun _ _ => True)) [9] [(1, Is (.int .u64 (k : Int))), (2, Is (.pointer (some ⟨w.heap.size, 0, none⟩))), (4, Is (.pointer (some ⟨(w.heap.size + 1), 0, none⟩))), (6, Is (.int .u64 (x : Int))), (7, Is (.int .u64 (y : Int)))] [(19, Is (.pointer (some ⟨w.heap.size, 0, none⟩))), (20, Is (.bool b)), (21, Is (.pointer (some ⟨w.heap.size, 1, none⟩))), (22, Is (.int .u64 (hi n : Nat))), (23, Is (.int .u64 (k : Int))), (24, Is (.int .u64 (q : Int))), (25, Is (.int .u64 (x : Int))), (26, Is (.agg #[.bool b, .int .u64 (q : Int), .int .u64 (x : Int)])), (27, Is (.int .u64 (y : Int))), (5, Is (.int .u64 (y : Int)))]
    [.op [2] none, .op [19] none, .op [2] none, .op [21] none, .op [1] none, .op [22, 23] none, .op [6] none, .op [20, 24, 25] none, .op [7] none, .phase 0 [4, 26] [], .op [27] none] (by as_aux_lemma => kernel_rfl) ?_ ?_ ?_ ?_ ?_ ⟨stable_is _ _, stable_is _ _, stable_is _ _, stable_is _ _, stable_is _ _, stable_is _ _, stable_is _ _, stable_is _ _, stable_is _ _, stable_is _ _, stable_is _ _, stable_is _ _, stable_is _ _, stable_is _ _, stable_is _ _, trivial⟩ ?_ (HSB.out.drew) ?_ ?_
  · as_aux_lemma => kernel_rfl
  · as_aux_lemma => kernel_rfl
  · as_aux_lemma => kernel_rfl
  · as_aux_lemma => kernel_rfl
  · as_aux_lemma => kernel_rfl
  · exact ⟨rfl, rfl, rfl, rfl, rfl, trivial⟩
  · refine ⟨?_, ?_, ?_, ?_, ?_, ?_, ?_, ?_, ?_, ?_, ?_, trivial⟩
    · as_aux_lemma =>
        intro vals a W hS hL
        have e2 : a.tmps.getD 2 undef = .pointer (some ⟨w.heap.size, 0, none⟩) := hL.1
        clear hL
        go_simp
        exact ⟨⟨fun d hd => by injection hd with hd; subst hd; rfl, fun h => by cases h⟩, hS, trivial⟩
    · as_aux_lemma =>
        intro vals a W hS hL
        have e19 : a.tmps.getD 19 undef = .pointer (some ⟨w.heap.size, 0, none⟩) := hL.1
        clear hL
        have kb : Bk W w.heap.size 46 #[.bool b, .int .u64 (hi n : Nat), .int .u64 (lo n : Nat)] := hS.bk (.tail _ (.head _)) (.tail _ (.head _))
        have f0 := kb.cell 0
        clear kb
        go_simp
        exact ⟨⟨fun d hd => by injection hd with hd; subst hd; rfl, fun h => by cases h⟩, hS, trivial⟩
    · as_aux_lemma =>
        intro vals a W hS hL
        have e2 : a.tmps.getD 2 undef = .pointer (some ⟨w.heap.size, 0, none⟩) := hL.1
        clear hL
        go_simp
        exact ⟨⟨fun d hd => by injection hd with hd; subst hd; rfl, fun h => by cases h⟩, hS, trivial⟩
    · as_aux_lemma =>
        intro vals a W hS hL
        have e21 : a.tmps.getD 21 undef = .pointer (some ⟨w.heap.size, 1, none⟩) := hL.1
        clear hL
        have kb : Bk W w.heap.size 46 #[.bool b, .int .u64 (hi n : Nat), .int .u64 (lo n : Nat)] := hS.bk (.tail _ (.head _)) (.tail _ (.head _))
        have f1 := kb.cell 1
        clear kb
        go_simp
        exact ⟨⟨fun d hd => by injection hd with hd; subst hd; rfl, fun h => by cases h⟩, hS, trivial⟩
    · as_aux_lemma =>
        intro vals a W hS hL
        have e1 : a.tmps.getD 1 undef = .int .u64 (k : Int) := hL.1
        clear hL
        go_simp
        exact ⟨⟨fun d hd => by injection hd with hd; subst hd; rfl, fun h => by cases h⟩, hS, trivial⟩
    · as_aux_lemma =>
        intro vals a W hS hL
        have e22 : a.tmps.getD 22 undef = .int .u64 (hi n : Nat) := hL.1
        have e23 : a.tmps.getD 23 undef = .int .u64 (k : Int) := hL.2.1
        clear hL
        have d1 := HD1.out
        have hq := HQ.out
        have hk1 := HK1.out
        have hkz := HKZ.out
        have hk0 : ¬ k = 0 := by omega
        go_simp
        exact ⟨⟨fun d hd => by injection hd with hd; subst hd; rfl, fun h => by cases h⟩, hS, trivial⟩
    · as_aux_lemma =>
        intro vals a W hS hL
        have e6 : a.tmps.getD 6 undef = .int .u64 (x : Int) := hL.1
        clear hL
        go_simp
        exact ⟨⟨fun d hd => by injection hd with hd; subst hd; rfl, fun h => by cases h⟩, hS, trivial⟩
    · as_aux_lemma =>
        intro vals a W hS hL
        have e20 : a.tmps.getD 20 undef = .bool b := hL.1
        have e24 : a.tmps.getD 24 undef = .int .u64 (q : Int) := hL.2.1
        have e25 : a.tmps.getD 25 undef = .int .u64 (x : Int) := hL.2.2.1
        clear hL
        rw [Array.getD_eq_getD_getElem?] at e20 e24 e25
        go_simp
        exact ⟨⟨fun d hd => by injection hd with hd; subst hd; rfl, fun h => by cases h⟩, hS, trivial⟩
    · as_aux_lemma =>
        intro vals a W hS hL
        have e7 : a.tmps.getD 7 undef = .int .u64 (y : Int) := hL.1
        clear hL
        go_simp
        exact ⟨⟨fun d hd => by injection hd with hd; subst hd; rfl, fun h => by cases h⟩, hS, trivial⟩
    · as_aux_lemma =>
        intro a W vals hv hS hL hp
        have e4 : a.tmps.getD 4 undef = .pointer (some ⟨(w.heap.size + 1), 0, none⟩) := hL.1
        have e26 : a.tmps.getD 26 undef = .agg #[.bool b, .int .u64 (q : Int), .int .u64 (x : Int)] := hL.2.1
        clear hL
        match vals, hv, hS with
        | [], _, hS =>
          have hB : SB w 2 ([((w.heap.size + 1), 46, #[.bool false, .int .u64 0, .int .u64 0]), (w.heap.size, 46, #[.bool b, .int .u64 (hi n : Nat), .int .u64 (lo n : Nat)])] : List (Nat × TypeId × Array Value)) W := hS
          have kz := hB.bk _ (List.mem_cons_self ..)
          have hlt : ∀ x ∈ ([(w.heap.size, 46, #[.bool b, .int .u64 (hi n : Nat), .int .u64 (lo n : Nat)])] : List (Nat × TypeId × Array Value)), x.1 ≠ (w.heap.size + 1) := by simp <;> omega
          have z0 := kz.frozen 0
          have q0 := kz.cell 0
          have z1 := kz.frozen 1
          have q1 := kz.cell 1
          have z2 := kz.frozen 2
          have q2 := kz.cell 2
          have hF := hB.set3 (by omega) hlt (.bool b : Value) (.int .u64 (q : Int) : Value) (.int .u64 (x : Int) : Value)
          rw [Array.getD_eq_getD_getElem?] at e26
          clear hS kz hB
          go_simp
          exact ⟨hF, trivial, trivial⟩
    · as_aux_lemma =>
        intro vals a W hS hL
        have e27 : a.tmps.getD 27 undef = .int .u64 (y : Int) := hL.1
        clear hL
        go_simp
        exact ⟨⟨fun d hd => by injection hd with hd; subst hd; rfl, fun h => by cases h⟩, hS, trivial⟩
  · intro a W' vals hd hsz hT hF hv _ hS
    obtain ⟨u, rfl⟩ : ∃ u, vals = [u] := by
      match vals, hv with
      | [u], _ => exact ⟨u, rfl⟩
    have hB : SB w 2 ([((w.heap.size + 1), 46, #[.bool b, .int .u64 (q : Int), .int .u64 (x : Int)]), (w.heap.size, 46, #[.bool b, .int .u64 (hi n : Nat), .int .u64 (lo n : Nat)])] : List (Nat × TypeId × Array Value)) W' := hS
    have kz := hB.bk _ (List.mem_cons_self ..)
    have r0 := kz.cell 0
    have r1 := kz.cell 1
    have r2 := kz.cell 2
    clear kz hS
    have e4 : a.tmps.getD 4 undef = .pointer (some ⟨(w.heap.size + 1), 0, none⟩) := hT 4 (by simp)
    have e5 : a.tmps.getD 5 undef = .int .u64 (y : Int) := hT 5 (by simp)
    clear hT hF
    go_wp2
    refine bodyPost_ret (v := .tuple #[.agg #[.bool b, .int .u64 (q : Int), .int .u64 (x : Int)], .int .u64 (y : Int)]) ?_ hd ⟨rfl, hB.bel⟩
    rw [Array.getD_eq_getD_getElem?] at e4 e5
    simp [results, Tryz.results39, go_sem, e4, e5, r0, r1, r2]
end Go.Proofs.YtgepipapppdhfaaGreatDoor
