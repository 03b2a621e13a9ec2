/- cashbooklaw9.ValOrder by its contract, for any three values. Condition: utf8.ValidString keeps its contract; texts' lengths are such. -/
import Derived.Test.YtmbjmgmnicacpaaDoorOrderLaw9
namespace Go.Proofs.YtmbjmgmnicacpaaDoor
open Go.RowKit

theorem short_le {x : VX} {n m : Nat} (h : shortX n x) (hm : n ≤ m) : shortX m x := by
  cases x <;> first | trivial | exact Nat.le_trans h hm
theorem agg6 {k m s : Int} {t : ByteArray} {b : Bool} {e : Int} {k' m' s' : Int} {t' : ByteArray} {b' : Bool} {e' : Int}
    (h : (.agg #[.int .i64 k, .int .i64 m, .int .i64 s, .string t, .bool b, .int .i64 e] : Value) = .agg #[.int .i64 k', .int .i64 m', .int .i64 s', .string t', .bool b', .int .i64 e']) : sameB k m s t b e k' m' s' t' b' e' = true := by
  simp only [Value.agg.injEq, Array.mk.injEq, List.cons.injEq, Value.int.injEq, Value.string.injEq, Value.bool.injEq, true_and, and_true] at h
  exact decide_eq_true h
theorem xval_inj {x y : VX} (h : xval x = xval y) : x = y := by
  cases x <;> cases y <;> simp only [xval, Value.agg.injEq, Array.mk.injEq, List.cons.injEq, Value.int.injEq, Value.string.injEq, Value.bool.injEq, ByteArray.mk.injEq, true_and, and_true] at h <;> first | rfl | (exfalso; omega) | skip
  · obtain ⟨h1, h2⟩ := h
    rw [h1, Int.ofNat.inj h2]
  · rw [h]
  · rw [h]
  · rw [h]
theorem kind_blank {x : VX} (h : ¬ x.kind = 0) : x ≠ .blank := by rintro rfl; exact h rfl

theorem valOrder_any {w : World} (HV : Val w) (k1 m1 s1 : Int) (t1 : ByteArray) (b1 : Bool) (e1 : Int) (k2 m2 s2 : Int) (t2 : ByteArray) (b2 : Bool) (e2 : Int) (k3 m3 s3 : Int) (t3 : ByteArray) (b3 : Bool) (e3 : Int)
    (l1 : -9223372036854775808 ≤ m1) (u1 : m1 ≤ 9223372036854775807) (l2 : -9223372036854775808 ≤ m2) (u2 : m2 ≤ 9223372036854775807) (l3 : -9223372036854775808 ≤ m3) (u3 : m3 ≤ 9223372036854775807) :
    Calls Tryd.prog 3 #[.agg #[.int .i64 k1, .int .i64 m1, .int .i64 s1, .string t1, .bool b1, .int .i64 e1], .agg #[.int .i64 k2, .int .i64 m2, .int .i64 s2, .string t2, .bool b2, .int .i64 e2], .agg #[.int .i64 k3, .int .i64 m3, .int .i64 s3, .string t3, .bool b3, .int .i64 e3]] w fun x w' => x = .returned (.bool true) ∧ Below w.heap.size w w' := by
  by_cases h1 : 1000 < t1.size
  · exact order_long1 h1
  by_cases h2 : 1000 < t2.size
  · exact order_long2 (by omega) h2
  by_cases h3 : 1000 < t3.size
  · exact order_long3 (by omega) (by omega) h3
  have c1 : ∀ W : World, Below w.heap.size w W → Calls Tryd.prog 7 #[.agg #[.int .i64 k1, .int .i64 m1, .int .i64 s1, .string t1, .bool b1, .int .i64 e1]] W fun x w' => x = .returned (.int .i64 (ckV k1 m1 s1 t1 b1 e1)) ∧ Below W.heap.size W w' := fun W hb => check_v (HV.below hb) k1 m1 s1 t1 b1 e1 (by omega)
  have c2 : ∀ W : World, Below w.heap.size w W → Calls Tryd.prog 7 #[.agg #[.int .i64 k2, .int .i64 m2, .int .i64 s2, .string t2, .bool b2, .int .i64 e2]] W fun x w' => x = .returned (.int .i64 (ckV k2 m2 s2 t2 b2 e2)) ∧ Below W.heap.size W w' := fun W hb => check_v (HV.below hb) k2 m2 s2 t2 b2 e2 (by omega)
  have c3 : ∀ W : World, Below w.heap.size w W → Calls Tryd.prog 7 #[.agg #[.int .i64 k3, .int .i64 m3, .int .i64 s3, .string t3, .bool b3, .int .i64 e3]] W fun x w' => x = .returned (.int .i64 (ckV k3 m3 s3 t3 b3 e3)) ∧ Below W.heap.size W w' := fun W hb => check_v (HV.below hb) k3 m3 s3 t3 b3 e3 (by omega)
  have g1 : t1.size ≤ 1000 := by omega
  have g2 : t2.size ≤ 1000 := by omega
  have g3 : t3.size ≤ 1000 := by omega
  by_cases z1 : ¬ ckV k1 m1 s1 t1 b1 e1 = 0
  · exact order_bad1 g1 g2 g3 z1 c1
  replace z1 := Decidable.not_not.1 z1
  by_cases z2 : ¬ ckV k2 m2 s2 t2 b2 e2 = 0
  · rw [z1] at c1
    exact order_bad2 g1 g2 g3 c1 z2 c2
  replace z2 := Decidable.not_not.1 z2
  by_cases z3 : ¬ ckV k3 m3 s3 t3 b3 e3 = 0
  · rw [z1] at c1
    rw [z2] at c2
    exact order_bad3 g1 g2 g3 c1 c2 z3 c3
  replace z3 := Decidable.not_not.1 z3
  rw [z1] at c1
  rw [z2] at c2
  rw [z3] at c3
  by_cases q1 : k1 = 0
  · subst q1
    exact order_blank1 g1 g2 g3 c1 c2 c3
  by_cases q2 : k2 = 0
  · subst q2
    exact order_blank2 g1 g2 g3 c1 c2 c3 q1
  by_cases q3 : k3 = 0
  · subst q3
    exact order_blank3 g1 g2 g3 c1 c2 c3 q1 q2
  obtain ⟨x, hx, sx, kx, ex⟩ := ckV_form z1 l1 u1
  obtain ⟨y, hy, sy, ky, ey⟩ := ckV_form z2 l2 u2
  obtain ⟨z, hz, sz, kz, ez⟩ := ckV_form z3 l3 u3
  have bx := kind_blank (x := x) (by rw [← kx]; exact q1)
  have by' := kind_blank (x := y) (by rw [← ky]; exact q2)
  have bz := kind_blank (x := z) (by rw [← kz]; exact q3)
  have sx' := short_le sx (show t1.size ≤ 10000000 by omega)
  have sy' := short_le sy (show t2.size ≤ 10000000 by omega)
  have sz' := short_le sz (show t3.size ≤ 10000000 by omega)
  have C1 : ∀ W : World, Calls Tryd.prog 8 #[.agg #[.int .i64 k1, .int .i64 m1, .int .i64 s1, .string t1, .bool b1, .int .i64 e1], .agg #[.int .i64 k2, .int .i64 m2, .int .i64 s2, .string t2, .bool b2, .int .i64 e2]] W fun v w' => v = .returned (.int .i64 (cmpF x y)) ∧ Below W.heap.size W w' := fun W => by
    have := cmpx_any (w := W) hx hy sx' sy'
    rw [cmpX_full bx by', ← ex, ← ey] at this
    exact this
  have C2 : ∀ W : World, Calls Tryd.prog 8 #[.agg #[.int .i64 k2, .int .i64 m2, .int .i64 s2, .string t2, .bool b2, .int .i64 e2], .agg #[.int .i64 k3, .int .i64 m3, .int .i64 s3, .string t3, .bool b3, .int .i64 e3]] W fun v w' => v = .returned (.int .i64 (cmpF y z)) ∧ Below W.heap.size W w' := fun W => by
    have := cmpx_any (w := W) hy hz sy' sz'
    rw [cmpX_full by' bz, ← ey, ← ez] at this
    exact this
  have C3 : ∀ W : World, Calls Tryd.prog 8 #[.agg #[.int .i64 k1, .int .i64 m1, .int .i64 s1, .string t1, .bool b1, .int .i64 e1], .agg #[.int .i64 k3, .int .i64 m3, .int .i64 s3, .string t3, .bool b3, .int .i64 e3]] W fun v w' => v = .returned (.int .i64 (cmpF x z)) ∧ Below W.heap.size W w' := fun W => by
    have := cmpx_any (w := W) hx hz sx' sz'
    rw [cmpX_full bx bz, ← ex, ← ez] at this
    exact this
  have C4 : ∀ W : World, Calls Tryd.prog 8 #[.agg #[.int .i64 k2, .int .i64 m2, .int .i64 s2, .string t2, .bool b2, .int .i64 e2], .agg #[.int .i64 k1, .int .i64 m1, .int .i64 s1, .string t1, .bool b1, .int .i64 e1]] W fun v w' => v = .returned (.int .i64 (- cmpF x y)) ∧ Below W.heap.size W w' := fun W => by
    have := cmpx_any (w := W) hy hx sy' sx'
    rw [cmpX_full by' bx, cmpF_neg, ← ex, ← ey] at this
    exact this
  have C5 : ∀ W : World, Calls Tryd.prog 9 #[.agg #[.int .i64 k1, .int .i64 m1, .int .i64 s1, .string t1, .bool b1, .int .i64 e1], .agg #[.int .i64 k2, .int .i64 m2, .int .i64 s2, .string t2, .bool b2, .int .i64 e2]] W fun v w' => v = .returned (.bool (decide (cmpF x y = 0))) ∧ Below W.heap.size W w' := fun W => by
    have := same_any (w := W) k1 m1 s1 t1 b1 e1 k2 m2 s2 t2 b2 e2
    have e : sameB k1 m1 s1 t1 b1 e1 k2 m2 s2 t2 b2 e2 = decide (cmpF x y = 0) := by
      by_cases hc : cmpF x y = 0
      · rw [decide_eq_true hc]
        have := (cmpF_zero hx hy).1 hc
        exact agg6 (by rw [ex, ey, this])
      · rw [decide_eq_false hc]
        cases hs : sameB k1 m1 s1 t1 b1 e1 k2 m2 s2 t2 b2 e2
        · rfl
        · exfalso
          obtain ⟨a1, a2, a3, a4, a5, a6⟩ := of_decide_eq_true hs
          exact hc ((cmpF_zero hx hy).2 (xval_inj (by rw [← ex, ← ey, a1, a2, a3, a4, a5, a6])))
    rw [e] at this
    exact this
  have hold := cmpF_hold hx hy hz
  rcases cmpF_three x y with X | X | X <;> rcases cmpF_three y z with Y | Y | Y <;> rcases cmpF_three x z with Z | Z | Z <;> simp only [X, Y, Z] at C1 C2 C3 C4 C5 hold <;> first
    | (exfalso; omega)
    | exact order_p g1 g2 g3 c1 c2 c3 q1 q2 q3 C1 C2 C3 C4 C5
    | exact order_mp g1 g2 g3 c1 c2 c3 q1 q2 q3 C1 C2 C3 C4 C5
    | exact order_zp g1 g2 g3 c1 c2 c3 q1 q2 q3 C1 C2 C3 C4 C5
    | exact order_mmm g1 g2 g3 c1 c2 c3 q1 q2 q3 C1 C2 C3 C4 C5
    | exact order_mzm g1 g2 g3 c1 c2 c3 q1 q2 q3 C1 C2 C3 C4 C5
    | exact order_zmm g1 g2 g3 c1 c2 c3 q1 q2 q3 C1 C2 C3 C4 C5
    | exact order_zzm g1 g2 g3 c1 c2 c3 q1 q2 q3 C1 C2 C3 C4 C5
    | exact order_zzz g1 g2 g3 c1 c2 c3 q1 q2 q3 C1 C2 C3 C4 C5
end Go.Proofs.YtmbjmgmnicacpaaDoor
