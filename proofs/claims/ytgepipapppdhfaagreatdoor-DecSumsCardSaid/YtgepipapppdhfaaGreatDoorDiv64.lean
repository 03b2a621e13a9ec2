/- math/bits.Div64 by its contract: the quotient and the rest of a number of 128 bits by one of 64. Condition: the higher half below the divisor. -/
import Derived.Test.YtgepipapppdhfaaGreatDoorW2
import Derived.Test.YtgepipapppdhfaaGreatDoorDiv0
import Derived.Deep.CutBlock
namespace Go.Proofs.YtgepipapppdhfaaGreatDoor
open Go.RowKit

/-- What is left behind a digit, as it is reckoned. -/
theorem dv_rest {u d Y q r : Nat} (h : u * 4294967296 + d = q * Y + r) (hr : r < 18446744073709551616) :
    ∃ f g m : Nat, IntKind.u64.wrap ((u : Int) * 4294967296) = (f : Int) ∧ IntKind.u64.wrap ((f : Int) + (d : Int)) = (g : Int) ∧ IntKind.u64.wrap ((q : Int) * (Y : Int)) = (m : Int) ∧ IntKind.u64.wrap ((g : Int) - (m : Int)) = (r : Int) := by
  refine ⟨u * 4294967296 % 18446744073709551616, (u * 4294967296 % 18446744073709551616 + d) % 18446744073709551616, q * Y % 18446744073709551616, ?_, ?_, ?_, ?_⟩
  · rw [IntKind.wrap_u64]; omega
  · rw [IntKind.wrap_u64]; omega
  · rw [IntKind.wrap_u64, ← Int.natCast_mul]; omega
  · rw [IntKind.wrap_u64]; omega

set_option maxRecDepth 1000000 in
theorem div64_low {w : World} {l y : Nat} (hl : l < 18446744073709551616) (hy : y < 18446744073709551616) (h0 : 0 < y) :
    Calls Tryz.prog 63 #[.int .u64 0, .int .u64 l, .int .u64 y] w fun e w' => e = .returned (.tuple #[.int .u64 (l / y : Nat), .int .u64 (l % y : Nat)]) ∧ w' = w.drewN 1 := by
  have h1 : ((y : Int) == 0) = false := by simp; omega
  have h2 : ¬ (y : Int) ≤ 0 := by omega
  have h3 : 1 ≤ (y : Int) := by omega
  have HV := Lib.hid (show Ending.returned (.tuple #[.int .u64 (IntKind.u64.wrap ((l : Int) / (y : Int))), .int .u64 ((l : Int) % (y : Int))]) = .returned (.tuple #[.int .u64 (l / y : Nat), .int .u64 (l % y : Nat)]) by
    have e : IntKind.u64.wrap ((l / y : Nat) : Int) = ((l / y : Nat) : Int) := by
      have := Nat.div_le_self l y
      generalize l / y = k at *
      exact IntWalk.u64_in _ (by omega)
    rw [← Int.natCast_ediv, ← Int.natCast_emod, e])
  go_enter Tryz.func63, Tryz.ntmps63
  go_wp2
  go_region
  all_goals
    go_wp2
    go_ret2
    exact ⟨HV.out, rfl⟩

set_option maxRecDepth 1000000 in
set_option maxHeartbeats 2000000 in
theorem div64_high {w : World} {h l y : Nat} (hl : l < 18446744073709551616) (hy : y < 18446744073709551616) (h0 : 0 < h) (hhy : h < y) :
    Calls Tryz.prog 63 #[.int .u64 h, .int .u64 l, .int .u64 y] w fun e w' => e = .returned (.tuple #[.int .u64 ((h * 18446744073709551616 + l) / y : Nat), .int .u64 ((h * 18446744073709551616 + l) % y : Nat)]) ∧ w = w' := by
  have h1 : ((y : Int) == 0) = false := by simp; omega
  have h1' : ((h : Int) == 0) = false := by simp; omega
  have h2 : ¬ (y : Int) ≤ (h : Int) := by omega
  obtain ⟨s, Y, y1, y0, a, c, u, e, d1, d0, hs, hlz, E1, E2, E3, E4, E5, E6, E7, E8, E9, hK, hd0, hY, hYs, hN⟩ := dv_setup hl hy hhy
  have hs' : (s : Int) ≤ 63 := by omega
  have HZ : Hid (∀ w, Calls Tryz.prog 76 #[.int .u64 (y : Int)] w fun e w' => e = .returned (.int .i64 (s : Int)) ∧ w' = w) := Lib.hid (fun w => by
    have := Tryz.bits_LeadingZeros64 (y : Int) w (by omega) (by omega)
    rw [Int.toNat_natCast, hlz] at this
    exact this)
  clear hlz
  obtain ⟨hq1, hq2⟩ := hK.start
  obtain ⟨hr1, hr2⟩ := hK.rest
  have hK2 : Kn y1 y0 (knr y1 y0 u d1) d0 := ⟨hK.y1lo, hK.y1hi, hK.y0hi, hr2, hd0⟩
  obtain ⟨hq3, hq4⟩ := hK2.start
  obtain ⟨hr3, hr4⟩ := hK2.rest
  have hlt1 := hK.lt
  have hlt2 := hK2.lt
  obtain ⟨hm1, hm2, hm3⟩ := two_digits hr1 hr3 hr4
  rw [hN, ← hY, hYs] at hm2 hm3
  obtain ⟨hd1, hd2⟩ := shift_div (h * 18446744073709551616 + l) y s
  rw [hm2] at hd1
  rw [hm3] at hd2
  have HQ := Lib.hid hd1
  have HR := Lib.hid hd2
  have by1 := hK.y1lo
  have by1' := hK.y1hi
  have by0 := hK.y0hi
  have buY := hK.uy
  have bd1 := hK.dhi
  have hdm := Nat.div_add_mod u y1
  rw [Nat.mul_comm] at hdm
  have hml := Nat.mod_lt u (show 0 < y1 by omega)
  obtain ⟨f, g, m, F1, F2, F3, F4⟩ := dv_rest (Y := Y) (by rw [hY]; exact hr1) (by omega)
  obtain ⟨f', g', m', G1, G2, G3, G4⟩ := dv_rest (Y := Y) (by rw [hY]; exact hr3) (by omega)
  have hdm2 := Nat.div_add_mod (knr y1 y0 u d1) y1
  rw [Nat.mul_comm] at hdm2
  have hml2 := Nat.mod_lt (knr y1 y0 u d1) (show 0 < y1 by omega)
  have hrlt : knr y1 y0 u d1 < 18446744073709551616 := by omega
  have G5 : ((knr y1 y0 (knr y1 y0 u d1) d0 : Nat) : Int) / 2 ^ s = ((h * 18446744073709551616 + l) % y : Nat) := by
    rw [← HR.out, Int.natCast_ediv, pow_int]
  have HK := Lib.hid hK
  have HK2 := Lib.hid hK2
  have HN : Hid ((h * 18446744073709551616 + l) / y = knq y1 y0 u d1 * 4294967296 + knq y1 y0 (knr y1 y0 u d1) d0) := Lib.hid hd1.symm
  have D1 : (u : Int) / (y1 : Int) = ((u / y1 : Nat) : Int) := rfl
  have D2 : ((knr y1 y0 u d1 : Nat) : Int) / (y1 : Int) = ((knr y1 y0 u d1 / y1 : Nat) : Int) := rfl
  have hqa := (Nat.mul_comm _ _ : u / y1 * y1 = y1 * (u / y1))
  have M1 : (u : Int) - ((u / y1 : Nat) : Int) * (y1 : Int) = ((u % y1 : Nat) : Int) := by rw [← Int.natCast_mul]; omega
  have L1 : ((u / y1 : Nat) : Int) * (y1 : Int) ≤ (u : Int) := by rw [← Int.natCast_mul]; omega
  have P1 : 0 ≤ ((u / y1 : Nat) : Int) * (y1 : Int) := by rw [← Int.natCast_mul]; omega
  have M2 : ((knr y1 y0 u d1 : Nat) : Int) - ((knr y1 y0 u d1 / y1 : Nat) : Int) * (y1 : Int) = ((knr y1 y0 u d1 % y1 : Nat) : Int) := by rw [← Int.natCast_mul]; omega
  have L2 : ((knr y1 y0 u d1 / y1 : Nat) : Int) * (y1 : Int) ≤ ((knr y1 y0 u d1 : Nat) : Int) := by rw [← Int.natCast_mul]; omega
  have P2 : 0 ≤ ((knr y1 y0 u d1 / y1 : Nat) : Int) * (y1 : Int) := by rw [← Int.natCast_mul]; omega
  have hult : (u : Int) < 18446744073709551616 := by omega
  have hvlt : ((knr y1 y0 u d1 : Nat) : Int) < 18446744073709551616 := by omega
  have S1 : Hid (∃ q r : Nat, .int .u64 ((u / y1 : Nat) : Int) = Value.int .u64 q ∧ Value.int .u64 ((u % y1 : Nat) : Int) = .int .u64 r ∧ q * y1 + r = u ∧ knq y1 y0 u d1 ≤ q ∧ q ≤ 4294967297 ∧ r < 4294967296) := Lib.hid ⟨u / y1, u % y1, rfl, rfl, hdm, hq2, hq1, by omega⟩
  have S2 : Hid (∃ q r : Nat, .int .u64 ((knr y1 y0 u d1 / y1 : Nat) : Int) = Value.int .u64 q ∧ Value.int .u64 ((knr y1 y0 u d1 % y1 : Nat) : Int) = .int .u64 r ∧ q * y1 + r = knr y1 y0 u d1 ∧ knq y1 y0 (knr y1 y0 u d1) d0 ≤ q ∧ q ≤ 4294967297 ∧ r < 4294967296) := Lib.hid ⟨knr y1 y0 u d1 / y1, knr y1 y0 u d1 % y1, rfl, rfl, hdm2, hq4, hq3, by omega⟩
  have bqa : ((u / y1 : Nat) : Int) ≤ 4294967297 := by omega
  have bqb : ((knr y1 y0 u d1 / y1 : Nat) : Int) ≤ 4294967297 := by omega
  have bq1 : ((knq y1 y0 u d1 : Nat) : Int) < 4294967296 := by omega
  have bq2 : ((knq y1 y0 (knr y1 y0 u d1) d0 : Nat) : Int) < 4294967296 := by omega
  clear hK hK2 hd1 hd2 hm1 hm2 hm3 hr1 hr3 hN hY hYs HQ HR hr2 hr4 hlt1 hlt2 hq3 hq4 hdm hdm2 hml hml2 hq1 hq2 hqa buY hrlt
  generalize u / y1 = qa at *
  generalize u % y1 = ra at *
  generalize knr y1 y0 u d1 / y1 = qb at *
  generalize knr y1 y0 u d1 % y1 = rb at *
  generalize hv : knr y1 y0 u d1 = v at *
  generalize knr y1 y0 v d0 = z at *
  generalize hka : knq y1 y0 u d1 = ka at *
  generalize hkb : knq y1 y0 v d0 = kb at *
  have HKA := Lib.hid hka
  have HKB := Lib.hid hkb
  clear hv hka hkb
  have by1i : (2147483648 : Int) ≤ (y1 : Int) := by omega
  have by1j : (y1 : Int) < 4294967296 := by omega
  go_enter Tryz.func63, Tryz.ntmps63
  go_wp2_with fail
  refine (HZ.out _).mono ?_
  rintro e w1 ⟨rfl, rfl⟩
  go_upto_block 0 with fail
  go_cut [15, 16] from 67 (fun q1 _ wx => q1 = .int .u64 (ka : Int) ∧ wx = w1)
  case first =>
    go_wp2_with fail
    go_loop [15, 16] (fun q1 r1 => ∃ q r : Nat, q1 = .int .u64 q ∧ r1 = .int .u64 r ∧ q * y1 + r = u ∧ ka ≤ q ∧ q ≤ 4294967297 ∧ r < 4294967296) (fun q1 _ => (intOf q1).toNat)
    case atStart => exact S1.out
    case round =>
      obtain ⟨q, r, rfl, rfl, hqr, hkq, hqb, hrb⟩ := hrel
      by_cases hq : 4294967296 ≤ q
      · obtain ⟨p1, p2, p3⟩ := HK.out.dec hqr (by rw [HKA.out]; exact hkq) (.inl hq)
        rw [HKA.out] at p2
        obtain ⟨p, rfl⟩ : ∃ p, q = p + 1 := ⟨q - 1, by omega⟩
        rw [Nat.add_sub_cancel] at p2 p3
        have hqi : (4294967296 : Int) ≤ (p : Int) + 1 := by omega
        by_cases hbr : 4294967296 ≤ r + y1
        · have hbri : (4294967296 : Int) ≤ (r : Int) + (y1 : Int) := by omega
          have hend : p = ka := by rw [← HKA.out]; exact HK.out.broke p3 (by rw [HKA.out]; exact p2) (by omega) hbr
          have HE := Lib.hid hend
          clear p1 p2 p3 hqr hkq hbr hend
          go_wp2_with fail
          go_meet
          exact ⟨by rw [← HE.out], rfl⟩
        · have hbri : decide ((4294967296 : Int) ≤ (r : Int) + (y1 : Int)) = false := decide_eq_false (by omega)
          have hbrj : (r : Int) + (y1 : Int) ≤ 8589934592 := by omega
          have HBR := Lib.hid (Nat.lt_of_not_le hbr)
          have HP2 := Lib.hid p2
          have HP3 := Lib.hid p3
          clear p1 p2 p3 hqr hkq hbr
          go_wp2_with fail
          go_round
          case rel => exact ⟨p, r + y1, by go_num, by go_num, HP3.out, HP2.out, by omega, HBR.out⟩
          case measure => simp [intOf]
      · have hq0i : (q : Int) < 4294967296 := by omega
        have hq0b : decide ((4294967296 : Int) ≤ (q : Int)) = false := decide_eq_false (by omega)
        have hmul : q * y0 ≤ 4294967295 * 4294967295 := Nat.mul_le_mul (by omega) (by omega)
        have hmuli : (q : Int) * (y0 : Int) < 18446744073709551616 := by rw [← Int.natCast_mul]; omega
        have hmuln : 0 ≤ (q : Int) * (y0 : Int) := by rw [← Int.natCast_mul]; omega
        by_cases hc : 4294967296 * r + d1 < q * y0
        · have hci : 4294967296 * (r : Int) + (d1 : Int) < (q : Int) * (y0 : Int) := by rw [← Int.natCast_mul]; omega
          obtain ⟨p1, p2, p3⟩ := HK.out.dec hqr (by rw [HKA.out]; exact hkq) (.inr hc)
          rw [HKA.out] at p2
          obtain ⟨p, hp⟩ : ∃ p, q = p + 1 := ⟨q - 1, by omega⟩
          have hpi : (1 : Int) ≤ (q : Int) := by omega
          have HP := Lib.hid hp
          by_cases hbr : 4294967296 ≤ r + y1
          · have hbri : (4294967296 : Int) ≤ (r : Int) + (y1 : Int) := by omega
            have hend : q - 1 = ka := by rw [← HKA.out]; exact HK.out.broke p3 (by rw [HKA.out]; exact p2) (by omega) hbr
            have HE := Lib.hid hend
            clear p1 p2 p3 hqr hkq hbr hend hp hc hmul hq
            go_wp2_with fail
            go_meet
            exact ⟨by rw [← HE.out, Int.natCast_sub (by rw [HP.out]; omega)]; rfl, rfl⟩
          · have hbri : decide ((4294967296 : Int) ≤ (r : Int) + (y1 : Int)) = false := decide_eq_false (by omega)
            have hbrj : (r : Int) + (y1 : Int) ≤ 8589934592 := by omega
            have HBR := Lib.hid (Nat.lt_of_not_le hbr)
            have HP2 := Lib.hid p2
            have HP3 := Lib.hid p3
            clear p1 p2 p3 hqr hkq hbr hp hc hmul hq
            go_wp2_with fail
            go_round
            case rel => exact ⟨q - 1, r + y1, by rw [Int.natCast_sub (by rw [HP.out]; omega)]; rfl, by go_num, HP3.out, HP2.out, by omega, HBR.out⟩
            case measure => simp [intOf]; omega
        · obtain ⟨X, hX⟩ : ∃ X : Nat, (q : Int) * (y0 : Int) = (X : Int) := ⟨q * y0, (Int.natCast_mul ..).symm⟩
          obtain ⟨Z, hZ⟩ : ∃ Z : Nat, 4294967296 * (r : Int) + (d1 : Int) = (Z : Int) := ⟨4294967296 * r + d1, by omega⟩
          have hci : X ≤ Z := by
            have h1 : (q * y0 : Nat) = X := by have := hX; rw [← Int.natCast_mul] at this; omega
            omega
          have hXb : (X : Int) < 18446744073709551616 := by rw [← hX]; exact hmuli
          have hdb : decide (Z < X) = false := decide_eq_false (by omega)
          have hdbi : decide ((Z : Int) < (X : Int)) = false := decide_eq_false (by omega)
          have hend : q = ka := by rw [← HKA.out]; exact HK.out.done hqr (by rw [HKA.out]; exact hkq) (Nat.le_of_not_lt hc)
          have HE := Lib.hid hend
          clear hqr hkq hc hmul hq hend hci hmuli hmuln hq0i
          go_wp2_with fail
          go_meet
          exact ⟨by rw [HE.out], rfl⟩
  case rest =>
    obtain ⟨rfl, rfl⟩ := hcut
    go_upto_block 2 with fail
    go_cut [16, 18] from 102 (fun _ q1 wx => q1 = .int .u64 (kb : Int) ∧ wx = wc)
    case first =>
      go_wp2_with fail
      go_loop [16, 18] (fun r1 q1 => ∃ q r : Nat, q1 = .int .u64 q ∧ r1 = .int .u64 r ∧ q * y1 + r = v ∧ kb ≤ q ∧ q ≤ 4294967297 ∧ r < 4294967296) (fun _ q1 => (intOf q1).toNat)
      case atStart => exact S2.out
      case round =>
        obtain ⟨q, r, rfl, rfl, hqr, hkq, hqb, hrb⟩ := hrel
        by_cases hq : 4294967296 ≤ q
        · obtain ⟨p1, p2, p3⟩ := HK2.out.dec hqr (by rw [HKB.out]; exact hkq) (.inl hq)
          rw [HKB.out] at p2
          obtain ⟨p, rfl⟩ : ∃ p, q = p + 1 := ⟨q - 1, by omega⟩
          rw [Nat.add_sub_cancel] at p2 p3
          have hqi : (4294967296 : Int) ≤ (p : Int) + 1 := by omega
          by_cases hbr : 4294967296 ≤ r + y1
          · have hbri : (4294967296 : Int) ≤ (r : Int) + (y1 : Int) := by omega
            have hend : p = kb := by rw [← HKB.out]; exact HK2.out.broke p3 (by rw [HKB.out]; exact p2) (by omega) hbr
            have HE := Lib.hid hend
            clear p1 p2 p3 hqr hkq hbr hend
            go_wp2_with fail
            go_meet
            exact ⟨by rw [← HE.out], rfl⟩
          · have hbri : decide ((4294967296 : Int) ≤ (r : Int) + (y1 : Int)) = false := decide_eq_false (by omega)
            have hbrj : (r : Int) + (y1 : Int) ≤ 8589934592 := by omega
            have HBR := Lib.hid (Nat.lt_of_not_le hbr)
            have HP2 := Lib.hid p2
            have HP3 := Lib.hid p3
            clear p1 p2 p3 hqr hkq hbr
            go_wp2_with fail
            go_round
            case rel => exact ⟨p, r + y1, by go_num, by go_num, HP3.out, HP2.out, by omega, HBR.out⟩
            case measure => simp [intOf]
        · have hq0i : (q : Int) < 4294967296 := by omega
          have hq0b : decide ((4294967296 : Int) ≤ (q : Int)) = false := decide_eq_false (by omega)
          have hmul : q * y0 ≤ 4294967295 * 4294967295 := Nat.mul_le_mul (by omega) (by omega)
          have hmuli : (q : Int) * (y0 : Int) < 18446744073709551616 := by rw [← Int.natCast_mul]; omega
          have hmuln : 0 ≤ (q : Int) * (y0 : Int) := by rw [← Int.natCast_mul]; omega
          by_cases hc : 4294967296 * r + d0 < q * y0
          · have hci : 4294967296 * (r : Int) + (d0 : Int) < (q : Int) * (y0 : Int) := by rw [← Int.natCast_mul]; omega
            obtain ⟨p1, p2, p3⟩ := HK2.out.dec hqr (by rw [HKB.out]; exact hkq) (.inr hc)
            rw [HKB.out] at p2
            obtain ⟨p, hp⟩ : ∃ p, q = p + 1 := ⟨q - 1, by omega⟩
            have hpi : (1 : Int) ≤ (q : Int) := by omega
            have HP := Lib.hid hp
            by_cases hbr : 4294967296 ≤ r + y1
            · have hbri : (4294967296 : Int) ≤ (r : Int) + (y1 : Int) := by omega
              have hend : q - 1 = kb := by rw [← HKB.out]; exact HK2.out.broke p3 (by rw [HKB.out]; exact p2) (by omega) hbr
              have HE := Lib.hid hend
              clear p1 p2 p3 hqr hkq hbr hend hp hc hmul hq
              go_wp2_with fail
              go_meet
              exact ⟨by rw [← HE.out, Int.natCast_sub (by rw [HP.out]; omega)]; rfl, rfl⟩
            · have hbri : decide ((4294967296 : Int) ≤ (r : Int) + (y1 : Int)) = false := decide_eq_false (by omega)
              have hbrj : (r : Int) + (y1 : Int) ≤ 8589934592 := by omega
              have HBR := Lib.hid (Nat.lt_of_not_le hbr)
              have HP2 := Lib.hid p2
              have HP3 := Lib.hid p3
              clear p1 p2 p3 hqr hkq hbr hp hc hmul hq
              go_wp2_with fail
              go_round
              case rel => exact ⟨q - 1, r + y1, by rw [Int.natCast_sub (by rw [HP.out]; omega)]; rfl, by go_num, HP3.out, HP2.out, by omega, HBR.out⟩
              case measure => simp [intOf]; omega
          · obtain ⟨X, hX⟩ : ∃ X : Nat, (q : Int) * (y0 : Int) = (X : Int) := ⟨q * y0, (Int.natCast_mul ..).symm⟩
            obtain ⟨Z, hZ⟩ : ∃ Z : Nat, 4294967296 * (r : Int) + (d0 : Int) = (Z : Int) := ⟨4294967296 * r + d0, by omega⟩
            have hci : X ≤ Z := by
              have h1 : (q * y0 : Nat) = X := by have := hX; rw [← Int.natCast_mul] at this; omega
              omega
            have hXb : (X : Int) < 18446744073709551616 := by rw [← hX]; exact hmuli
            have hdb : decide (Z < X) = false := decide_eq_false (by omega)
            have hdbi : decide ((Z : Int) < (X : Int)) = false := decide_eq_false (by omega)
            have hend : q = kb := by rw [← HKB.out]; exact HK2.out.done hqr (by rw [HKB.out]; exact hkq) (Nat.le_of_not_lt hc)
            have HE := Lib.hid hend
            clear hqr hkq hc hmul hq hend hci hmuli hmuln hq0i
            go_wp2_with fail
            go_meet
            exact ⟨by rw [HE.out], rfl⟩
    case rest =>
      obtain ⟨rfl, rfl⟩ := hcut
      go_wp2_with fail
      go_ret2
      rw [HN.out]
      exact ⟨by go_num, rfl⟩
