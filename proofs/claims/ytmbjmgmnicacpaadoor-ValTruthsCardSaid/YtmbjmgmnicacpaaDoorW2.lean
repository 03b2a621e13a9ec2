/- dec's whole numbers of 128 bits: sign, times, add, grow by their contracts. Condition: within the bits. -/
import Derived.Test.YtmbjmgmnicacpaaDoorW1
import Derived.Test.YtmbjmgmnicacpaaDoorShelf
import Derived.Shelf.Spec.BitsCarry
namespace Go.Proofs.YtmbjmgmnicacpaaDoor
open Go.RowKit

theorem add64_run (x y c : Nat) (hc : c ≤ 1) (w : World) :
    (callFunc 41 #[.int .u64 x, .int .u64 y, .int .u64 c]).run Tryd.prog w = .ok (.value (.tuple #[.int .u64 (((x + y + c) % 18446744073709551616 : Nat) : Int), .int .u64 (((x + y + c) / 18446744073709551616 : Nat) : Int)])) w := by
  rw [run_callFunc_extern Tryd.func41 (by kernel_rfl) (by kernel_rfl) (by kernel_rfl) (e := add64Entry) (by kernel_rfl), run_add64 x y c (by omega) (by omega) (by omega) (by omega)]
  simp only [Result.andThen]
  congr 5 <;> omega
theorem sub64_run (x y c : Nat) (hc : c ≤ 1) (w : World) :
    (callFunc 43 #[.int .u64 x, .int .u64 y, .int .u64 c]).run Tryd.prog w = .ok (.value (.tuple #[.int .u64 (((x + 18446744073709551616 - y - c) % 18446744073709551616 : Nat) : Int), .int .u64 ((if x < y + c then 1 else 0 : Nat) : Int)])) w := by
  rw [run_callFunc_extern Tryd.func43 (by kernel_rfl) (by kernel_rfl) (by kernel_rfl) (e := sub64Entry) (by kernel_rfl), run_sub64 x y c hc]
  rfl

theorem bcell {W w1 : World} (hb : Below W.heap.size W w1) : (∀ b o, b < W.heap.size → w1.cell? ⟨b, o, none⟩ = W.cell? ⟨b, o, none⟩) ∧ (∀ b o, b < W.heap.size → w1.frozen? ⟨b, o, none⟩ = W.frozen? ⟨b, o, none⟩) :=
  ⟨fun b o h => hb.cell (p := ⟨b, o, none⟩) h, fun b o h => hb.frozen (p := ⟨b, o, none⟩) h⟩

theorem sign_any {w : World} {b : Bool} {n : Nat} :
    Calls Tryd.prog 29 #[wd b n] w fun e w' => e = .returned (.int .i64 (cmp (sgn b n) 0)) ∧ Below w.heap.size w w' := by
  by_cases h0 : n = 0
  · have HV := Lib.hid (show cmp (sgn b n) 0 = 0 by subst h0; unfold cmp sgn; cases b <;> simp)
    have HZ := Lib.hid (show decide (n = 0) = true by simp [h0])
    clear h0
    have HW := Lib.hid (wd_parts b n)
    rw [HW.out]
    go_enter Tryd.func29, Tryd.ntmps29
    go_wp2_with fail
    rw [← HW.out]
    refine isZero_any.mono ?_
    rintro e w1 ⟨rfl, hb⟩
    rw [HZ.out]
    have hb' := (bel0 w _).trans (hb.mono (by simp))
    clear hb
    go_wp2
    go_ret
    exact ⟨by rw [HV.out]; rfl, hb'⟩
  · have HZ := Lib.hid (show decide (n = 0) = false by simp [h0])
    cases b
    · have HV := Lib.hid (show cmp (sgn false n) 0 = 1 by unfold cmp sgn; simp [h0])
      clear h0
      have HW := Lib.hid (wd_parts false n)
      rw [HW.out]
      go_enter Tryd.func29, Tryd.ntmps29
      go_wp2_with fail
      rw [← HW.out]
      refine isZero_any.mono ?_
      rintro e w1 ⟨rfl, hb⟩
      rw [HZ.out]
      have hb' := (bel0 w _).trans (hb.mono (by simp))
      have k1 := (Bk.new w 59 #[.bool false, .int .u64 (hi n : Nat), .int .u64 (lo n : Nat)]).below hb (by simp)
      have c0 := k1.cell 0
      clear hb k1
      go_wp2
      go_ret
      exact ⟨by rw [HV.out]; rfl, hb'⟩
    · have HV := Lib.hid (show cmp (sgn true n) 0 = -1 by unfold cmp sgn; simp; omega)
      clear h0
      have HW := Lib.hid (wd_parts true n)
      rw [HW.out]
      go_enter Tryd.func29, Tryd.ntmps29
      go_wp2_with fail
      rw [← HW.out]
      refine isZero_any.mono ?_
      rintro e w1 ⟨rfl, hb⟩
      rw [HZ.out]
      have hb' := (bel0 w _).trans (hb.mono (by simp))
      have k1 := (Bk.new w 59 #[.bool true, .int .u64 (hi n : Nat), .int .u64 (lo n : Nat)]).below hb (by simp)
      have c0 := k1.cell 0
      clear hb k1
      go_wp2
      go_ret
      exact ⟨by rw [HV.out]; rfl, hb'⟩

/-- A product's halves. -/
theorem hl_mul {n k : Nat} (h : n * k < 340282366920938463463374607431768211456) :
    hi (n * k) = hi n * k + lo n * k / 18446744073709551616 ∧ lo (n * k) = lo n * k % 18446744073709551616 ∧ hi n * k + lo n * k / 18446744073709551616 < 18446744073709551616 := by
  have e : n * k = hi n * k * 18446744073709551616 + lo n * k := by
    conv => lhs; rw [← hi_lo n]
    rw [Nat.add_mul, Nat.mul_right_comm]
  have h1 : hi (n * k) = hi n * k + lo n * k / 18446744073709551616 := by
    show n * k / 18446744073709551616 = _
    omega
  refine ⟨h1, ?_, by rw [← h1]; exact hi_lt h⟩
  show n * k % 18446744073709551616 = _
  omega

theorem times_any {w : World} {b : Bool} {n k : Nat} (hk : k < 18446744073709551616) (h : n * k < 340282366920938463463374607431768211456) :
    Calls Tryd.prog 44 #[wd b n, .int .u64 k] w fun e w' => e = .returned (wd b (n * k)) ∧ Below w.heap.size w w' := by
  obtain ⟨h1, h2, h3⟩ := hl_mul h
  have HM := Lib.hid (fun w => Tryd.bits_Mul64 (lo n) k (lo_lt n) hk w)
  generalize lo n * k / 18446744073709551616 = u at *
  generalize lo n * k % 18446744073709551616 = v at *
  have HV := Lib.hid (show wd b (n * k) = .agg #[.bool b, .int .u64 (((hi n : Nat) : Int) * (k : Int) + (u : Int)), .int .u64 (v : Int)] by
    unfold wd; rw [h1, h2, Int.natCast_add, Int.natCast_mul])
  have h3' : ((hi n : Nat) : Int) * (k : Int) + (u : Int) < 18446744073709551616 := by rw [← Int.natCast_mul, ← Int.natCast_add]; omega
  have h4' : 0 ≤ ((hi n : Nat) : Int) * (k : Int) := Int.mul_nonneg (by omega) (by omega)
  clear h1 h2 h3 h hk
  rw [wd_parts b n]
  go_enter Tryd.func44, Tryd.ntmps44
  go_wp2_with fail
  refine (HM.out _).mono ?_
  rintro e w1 ⟨rfl, rfl⟩
  go_wp2
  refine bodyPost_ret (v := .agg #[.bool b, .int .u64 (((hi n : Nat) : Int) * (k : Int) + (u : Int)), .int .u64 (v : Int)]) (by simp [results, Tryd.results44, go_sem]) rfl ⟨by rw [HV.out], bel1 _ _ _⟩

/-- What add tells. -/
theorem hl_add (m n : Nat) (h : m + n < 340282366920938463463374607431768211456) :
    lo (m + n) = (lo m + lo n + 0) % 18446744073709551616 ∧ hi (m + n) = (hi m + hi n + (lo m + lo n + 0) / 18446744073709551616) % 18446744073709551616 ∧ (lo m + lo n + 0) / 18446744073709551616 ≤ 1 := by
  unfold hi lo; omega
theorem hl_sub (m n : Nat) (h : n ≤ m) (hm : m < 340282366920938463463374607431768211456) :
    lo (m - n) = (lo m + 18446744073709551616 - lo n - 0) % 18446744073709551616 ∧ hi (m - n) = (hi m + 18446744073709551616 - hi n - (if lo m < lo n + 0 then 1 else 0)) % 18446744073709551616 ∧ (if lo m < lo n + 0 then 1 else 0) ≤ 1 := by
  unfold hi lo
  split <;> omega

set_option maxRecDepth 100000 in
theorem add_any {w : World} {a b : Bool} {m n : Nat} (h : m + n < 340282366920938463463374607431768211456) :
    Calls Tryd.prog 30 #[wd a m, wd b n] w fun e w' => e = .returned (wd (adb a b m n) (adn a b m n)) ∧ Below w.heap.size w w' := by
  by_cases hab : a = b
  · subst hab
    obtain ⟨h1, h2, h3⟩ := hl_add m n h
    have HA : Hid (∀ w, (callFunc 41 #[.int .u64 (lo m : Nat), .int .u64 (lo n : Nat), .int .u64 0]).run Tryd.prog w = .ok (.value (.tuple #[.int .u64 (((lo m + lo n + 0) % 18446744073709551616 : Nat) : Int), .int .u64 (((lo m + lo n + 0) / 18446744073709551616 : Nat) : Int)])) w) := Lib.hid (fun w => add64_run (lo m) (lo n) 0 (by omega) w)
    generalize (lo m + lo n + 0) / 18446744073709551616 = q at *
    generalize (lo m + lo n + 0) % 18446744073709551616 = r at *
    have HB := Lib.hid (fun w => add64_run (hi m) (hi n) q h3 w)
    generalize (hi m + hi n + q) / 18446744073709551616 = q' at *
    generalize (hi m + hi n + q) % 18446744073709551616 = r' at *
    have HV := Lib.hid (show wd (adb a a m n) (adn a a m n) = .agg #[.bool a, .int .u64 (r' : Int), .int .u64 (r : Int)] by
      unfold wd adb adn; rw [if_pos rfl, if_pos rfl, h1, h2])
    clear h1 h2 h3 h
    rw [wd_parts a m, wd_parts a n]
    go_enter Tryd.func30, Tryd.ntmps30
    go_wp2_with (first | (rw [HA.out]) | (rw [HB.out]))
    refine bodyPost_ret (v := .agg #[.bool a, .int .u64 (r' : Int), .int .u64 (r : Int)]) (by simp [results, Tryd.results30, go_sem]) rfl ⟨by rw [HV.out], bel2 _ _ _ _⟩
  · have hne : (a == b) = false := by simpa using hab
    by_cases hlt : m < n
    · obtain ⟨h1, h2, h3⟩ := hl_sub n m (by omega) (by omega)
      have HA : Hid (∀ w, (callFunc 43 #[.int .u64 (lo n : Nat), .int .u64 (lo m : Nat), .int .u64 0]).run Tryd.prog w = .ok (.value (.tuple #[.int .u64 (((lo n + 18446744073709551616 - lo m - 0) % 18446744073709551616 : Nat) : Int), .int .u64 ((if lo n < lo m + 0 then 1 else 0 : Nat) : Int)])) w) := Lib.hid (fun w => sub64_run (lo n) (lo m) 0 (by omega) w)
      generalize (lo n + 18446744073709551616 - lo m - 0) % 18446744073709551616 = r at *
      generalize (if lo n < lo m + 0 then 1 else 0) = q at *
      have HB := Lib.hid (fun w => sub64_run (hi n) (hi m) q h3 w)
      generalize (hi n + 18446744073709551616 - hi m - q) % 18446744073709551616 = r' at *
      generalize (if hi n < hi m + q then 1 else 0) = q' at *
      have HV := Lib.hid (show wd (adb a b m n) (adn a b m n) = .agg #[.bool b, .int .u64 (r' : Int), .int .u64 (r : Int)] by
        rw [wd_parts]; unfold adb adn; rw [if_neg hab, if_neg hab, if_pos hlt, if_pos hlt, h1, h2])
      have HS := Lib.hid (show decide (m < n) = true by simp [hlt])
      clear h1 h2 h3 h hlt hab
      rw [wd_parts a m, wd_parts b n]
      go_enter Tryd.func30, Tryd.ntmps30
      go_wp2_with fail
      refine (smaller_any (a := a) (b := b) (m := m) (n := n)).mono ?_
      rintro e w1 ⟨rfl, hb⟩
      rw [HS.out]
      obtain ⟨k1, k2, k3, hb', -⟩ := bx3 hb
      clear hb
      have c10 := k1.cell 0
      have c11 := k1.cell 1
      have c12 := k1.cell 2
      have c20 := k2.cell 0
      have c21 := k2.cell 1
      have c22 := k2.cell 2
      have z10 := k1.frozen 0
      have z11 := k1.frozen 1
      have z12 := k1.frozen 2
      have z20 := k2.frozen 0
      have z21 := k2.frozen 1
      have z22 := k2.frozen 2
      have z30 := k3.frozen 0
      have z31 := k3.frozen 1
      have z32 := k3.frozen 2
      have c30 := k3.cell 0
      have c31 := k3.cell 1
      have c32 := k3.cell 2
      clear k1 k2 k3
      go_wp2_with (first | (rw [HA.out]) | (rw [HB.out]))
      refine bodyPost_ret (v := .agg #[.bool b, .int .u64 (r' : Int), .int .u64 (r : Int)]) (by simp [results, Tryd.results30, go_sem, c30, c31, c32]) rfl ⟨by rw [HV.out], (((((((((hb'.setCell (by simp <;> omega) _).setCell (by simp <;> omega) _).setCell (by simp <;> omega) _).setCell (by simp <;> omega) _).setCell (by simp <;> omega) _).setCell (by simp <;> omega) _).setCell (by simp <;> omega) _).setCell (by simp <;> omega) _).setCell (by simp <;> omega) _)⟩
    · obtain ⟨h1, h2, h3⟩ := hl_sub m n (by omega) (by omega)
      have HA : Hid (∀ w, (callFunc 43 #[.int .u64 (lo m : Nat), .int .u64 (lo n : Nat), .int .u64 0]).run Tryd.prog w = .ok (.value (.tuple #[.int .u64 (((lo m + 18446744073709551616 - lo n - 0) % 18446744073709551616 : Nat) : Int), .int .u64 ((if lo m < lo n + 0 then 1 else 0 : Nat) : Int)])) w) := Lib.hid (fun w => sub64_run (lo m) (lo n) 0 (by omega) w)
      generalize (lo m + 18446744073709551616 - lo n - 0) % 18446744073709551616 = r at *
      generalize (if lo m < lo n + 0 then 1 else 0) = q at *
      have HB := Lib.hid (fun w => sub64_run (hi m) (hi n) q h3 w)
      generalize (hi m + 18446744073709551616 - hi n - q) % 18446744073709551616 = r' at *
      generalize (if hi m < hi n + q then 1 else 0) = q' at *
      have HV := Lib.hid (show wd (adb a b m n) (adn a b m n) = .agg #[.bool a, .int .u64 (r' : Int), .int .u64 (r : Int)] by
        rw [wd_parts]; unfold adb adn; rw [if_neg hab, if_neg hab, if_neg hlt, if_neg hlt, h1, h2])
      have HS := Lib.hid (show decide (m < n) = false by simp; omega)
      clear h1 h2 h3 h hlt hab
      rw [wd_parts a m, wd_parts b n]
      go_enter Tryd.func30, Tryd.ntmps30
      go_wp2_with fail
      refine (smaller_any (a := a) (b := b) (m := m) (n := n)).mono ?_
      rintro e w1 ⟨rfl, hb⟩
      rw [HS.out]
      obtain ⟨k1, k2, k3, hb', -⟩ := bx3 hb
      clear hb
      have c10 := k1.cell 0
      have c11 := k1.cell 1
      have c12 := k1.cell 2
      have c20 := k2.cell 0
      have c21 := k2.cell 1
      have c22 := k2.cell 2
      have z30 := k3.frozen 0
      have z31 := k3.frozen 1
      have z32 := k3.frozen 2
      have c30 := k3.cell 0
      have c31 := k3.cell 1
      have c32 := k3.cell 2
      clear k1 k2 k3
      go_wp2_with (first | (rw [HA.out]) | (rw [HB.out]))
      refine bodyPost_ret (v := .agg #[.bool a, .int .u64 (r' : Int), .int .u64 (r : Int)]) (by simp [results, Tryd.results30, go_sem, c30, c31, c32]) rfl ⟨by rw [HV.out], (((hb'.setCell (by simp <;> omega) _).setCell (by simp <;> omega) _).setCell (by simp <;> omega) _)⟩

end Go.Proofs.YtmbjmgmnicacpaaDoor
