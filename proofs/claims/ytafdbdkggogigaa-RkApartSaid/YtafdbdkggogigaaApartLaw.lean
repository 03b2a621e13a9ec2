/- cashbooklaw5.RkApart by its contract: it returns true. Condition: numbers within their kinds. -/
import Derived.Test.YtafdbdkggogigaaRkNum
import Derived.Test.YtafdbdkggogigaaTell
namespace Go.Proofs.Ytafdbdkggogigaa
open Go.RowKit

theorem rk_apart {m n : Int} {s t : Nat} (hs : s ≤ 9) (ht : t ≤ 9) (h0 : -134217728 ≤ m) (h1 : m ≤ 134217727) (h2 : -134217728 ≤ n) (h3 : n ≤ 134217727) :
    rkN m s = rkN n t ↔ m = n ∧ s = t := by unfold rkN; omega
theorem rk_gd {m : Int} {s : Nat} (h : Gd m s) (h0 : -134217728 ≤ m) (h1 : m ≤ 134217727) : rkE m s = 0 ∧ rkV m s = rkN m s := by
  have e : rkE m s = 0 := by unfold rkE; rw [if_pos h.ck, if_pos (by simp [sh, h0, h1])]
  exact ⟨e, by unfold rkV; rw [if_pos e]⟩

set_option maxRecDepth 100000 in
set_option maxHeartbeats 600000 in
theorem apart_good {w : World} {a b s t M N : Int} {S T : Nat} (hM : wrap32 (a.tdiv 32) = M) (hN : wrap32 (b.tdiv 32) = N) (hM6 : wrap64 M = M) (hN6 : wrap64 N = N) (hS : wrap64 (s.tmod 10) = (S : Int)) (hT : wrap64 (t.tmod 10) = (T : Int))
    (bM : M.natAbs ≤ 67108864) (bN : N.natAbs ≤ 67108864) (bS : S ≤ 9) (bT : T ≤ 9) :
    Calls Try.prog 6 #[.int .i32 a, .int .i32 b, .int .u8 s, .int .u8 t] w fun e w' => e = .returned (.bool true) ∧ Below w.heap.size w w' := by
  have HK := Lib.hid (fun W : World => known5_any W)
  have x0 : (tl M S).e = 0 := tl_small (by omega)
  have xg := (tl_ok bS x0).1
  have xa : (tl M S).m.natAbs ≤ 67108864 := by have := strip_abs M S; omega
  have y0 : (tl N T).e = 0 := tl_small (by omega)
  have yg := (tl_ok bT y0).1
  have ya : (tl N T).m.natAbs ≤ 67108864 := by have := strip_abs N T; omega
  obtain ⟨x1, x2⟩ := rk_gd xg (by omega) (by omega)
  obtain ⟨y1, y2⟩ := rk_gd yg (by omega) (by omega)
  have hap := rk_apart xg.s9 yg.s9 (show -134217728 ≤ (tl M S).m by omega) (by omega) (show -134217728 ≤ (tl N T).m by omega) (by omega)
  have HX : Hid (∀ W : World, Calls Try.prog 16 #[.agg #[.int .i64 M, .int .i64 (S : Nat)]] W fun e w' => e = .returned (.agg #[.int .i64 (tl M S).m, .int .i64 ((tl M S).s : Nat)]) ∧ Below W.heap.size W w') := Lib.hid (fun W => norm_any (by omega) (by omega) bS)
  have HY : Hid (∀ W : World, Calls Try.prog 16 #[.agg #[.int .i64 N, .int .i64 (T : Nat)]] W fun e w' => e = .returned (.agg #[.int .i64 (tl N T).m, .int .i64 ((tl N T).s : Nat)]) ∧ Below W.heap.size W w') := Lib.hid (fun W => norm_any (by omega) (by omega) bT)
  have HP : Hid (∀ W : World, Calls Try.prog 8 #[.agg #[.int .i64 (tl M S).m, .int .i64 ((tl M S).s : Nat)]] W fun e w' => e = .returned (.tuple #[.int .i64 (rkN (tl M S).m (tl M S).s), .int .i64 0]) ∧ Below W.heap.size W w') := Lib.hid (fun W => by
    have := pack_any (w := W) (m := (tl M S).m) (s := (tl M S).s)
    rw [x2] at this
    rw [x1] at this
    exact this)
  have HQ : Hid (∀ W : World, Calls Try.prog 8 #[.agg #[.int .i64 (tl N T).m, .int .i64 ((tl N T).s : Nat)]] W fun e w' => e = .returned (.tuple #[.int .i64 (rkN (tl N T).m (tl N T).s), .int .i64 0]) ∧ Below W.heap.size W w') := Lib.hid (fun W => by
    have := pack_any (w := W) (m := (tl N T).m) (s := (tl N T).s)
    rw [y2] at this
    rw [y1] at this
    exact this)
  clear x0 x1 x2 y0 y1 y2 xg yg xa ya bM bN bS bT
  generalize (tl M S).m = xm at *
  generalize (tl M S).s = xs at *
  generalize (tl N T).m = ym at *
  generalize (tl N T).s = ys at *
  generalize rkN xm xs = P at *
  generalize rkN ym ys = Q at *
  have Hap := Lib.hid hap
  clear hap
  have HB : Hid (SB w 0 [] w) := Lib.hid ⟨Below.refl _ _, Nat.le_refl _, fun x hx => by cases hx⟩
  go_enter Try.func6, Try.ntmps6
  go_wp2_with fail
  refine (HK.out _).mono ?_
  rintro e w1 ⟨rfl, hb⟩
  have HB1 := Lib.hid (HB.out.call hb)
  clear hb HB
  have HB := HB1
  clear HB1
  go_wp2_with fail
  refine (HX.out _).mono ?_
  rintro e w2 ⟨rfl, hb⟩
  have HB2 := Lib.hid ((HB.out.call hb).alloc 23 #[.int .i64 xm, .int .i64 (xs : Nat)])
  clear hb HB
  have HB := HB2
  clear HB2
  go_wp2_with fail
  refine (HY.out _).mono ?_
  rintro e w3 ⟨rfl, hb⟩
  have HB3 := Lib.hid ((HB.out.call hb).alloc 23 #[.int .i64 ym, .int .i64 (ys : Nat)])
  clear hb HB
  have HB := HB3
  clear HB3
  have q0 := HB.out.bk _ (.head _)
  have c00 := q0.cell 0
  have c01 := q0.cell 1
  clear q0
  have q1 := HB.out.bk _ (.tail _ (.head _))
  have c10 := q1.cell 0
  have c11 := q1.cell 1
  clear q1
  go_wp2_with fail
  refine (HP.out _).mono ?_
  rintro e w4 ⟨rfl, hb⟩
  clear c00 c01 c10 c11
  have HB4 := Lib.hid (HB.out.call hb)
  clear hb HB
  have HB := HB4
  clear HB4
  have q0 := HB.out.bk _ (.head _)
  have c00 := q0.cell 0
  have c01 := q0.cell 1
  clear q0
  have q1 := HB.out.bk _ (.tail _ (.head _))
  have c10 := q1.cell 0
  have c11 := q1.cell 1
  clear q1
  go_wp2_with fail
  refine (HQ.out _).mono ?_
  rintro e w5 ⟨rfl, hb⟩
  clear c00 c01 c10 c11
  have HB5 := Lib.hid (HB.out.call hb)
  clear hb HB
  have HB := HB5
  clear HB5
  have q0 := HB.out.bk _ (.head _)
  have c00 := q0.cell 0
  have c01 := q0.cell 1
  clear q0
  have q1 := HB.out.bk _ (.tail _ (.head _))
  have c10 := q1.cell 0
  have c11 := q1.cell 1
  clear q1
  have hbel := HB.out.bel
  clear HK HX HY HP HQ HB
  have hap := Hap.out
  clear Hap
  by_cases h1 : P = Q
  · obtain ⟨rfl, rfl⟩ := hap.1 h1
    subst h1
    clear hap
    go_wp2
    all_goals
      go_ret
      exact ⟨rfl, hbel⟩
  · have h1' : (P == Q) = false := by simpa using h1
    by_cases h2 : xm = ym
    · have h3 : xs ≠ ys := fun e => h1 (hap.2 ⟨h2, e⟩)
      subst h2
      have h3' : ((xs : Int) == (ys : Int)) = false := by simp; omega
      clear hap h1
      go_wp2
      go_ret
      exact ⟨rfl, hbel⟩
    · have h2' : (xm == ym) = false := by simpa using h2
      clear hap h1
      go_wp2
      go_ret
      exact ⟨rfl, hbel⟩

theorem apart_any {w : World} {a b s t : Int} (a0 : -2147483648 ≤ a) (a1 : a ≤ 2147483647) (b0 : -2147483648 ≤ b) (b1 : b ≤ 2147483647) (s0 : 0 ≤ s) (s1 : s ≤ 255) (t0 : 0 ≤ t) (t1 : t ≤ 255) :
    Calls Try.prog 6 #[.int .i32 a, .int .i32 b, .int .u8 s, .int .u8 t] w fun e w' => e = .returned (.bool true) ∧ Below w.heap.size w w' := by
  have num : ∀ {a : Int}, -2147483648 ≤ a → a ≤ 2147483647 → ∃ M : Int, wrap32 (a.tdiv 32) = M ∧ wrap64 M = M ∧ M.natAbs ≤ 67108864 := fun {a} h0 h1 => by
    have e : (a.tdiv 32).natAbs = a.natAbs / 32 := by rw [Int.natAbs_tdiv]; rfl
    exact ⟨a.tdiv 32, by unfold wrap32; omega, IntWalk.wrap64_in _ ⟨by omega, by omega⟩, by omega⟩
  have sc : ∀ {s : Int}, 0 ≤ s → ∃ S : Nat, wrap64 (s.tmod 10) = (S : Int) ∧ S ≤ 9 := fun {s} s0 => by
    have e := Int.tmod_eq_emod_of_nonneg (b := 10) s0
    exact ⟨(s % 10).toNat, by rw [e, IntWalk.wrap64_in _ ⟨by omega, by omega⟩]; omega, by omega⟩
  obtain ⟨M, hM, hM6, bM⟩ := num a0 a1
  obtain ⟨N, hN, hN6, bN⟩ := num b0 b1
  obtain ⟨S, hS, bS⟩ := sc s0
  obtain ⟨T, hT, bT⟩ := sc t0
  exact apart_good hM hN hM6 hN6 hS hT bM bN bS bT
end Go.Proofs.Ytafdbdkggogigaa
