/- cashbooklaw4.good by its contract; of three numbers each order. No condition. -/
import Derived.Test.YtfkfgfajdmacbaaDoorFloorsLaw
namespace Go.Proofs.YtfkfgfajdmacbaaDoor
open Go.RowKit

theorem order_cases (x y z : Int) : (cmp x y = -1 ∧ cmp y x = 1 ∧ cmp y z = -1 ∧ cmp x z = -1)
    ∨ (cmp x y = -1 ∧ cmp y x = 1 ∧ cmp y z = 0 ∧ cmp x z = -1)
    ∨ (cmp x y = -1 ∧ cmp y x = 1 ∧ cmp y z = 1)
    ∨ (cmp x y = 0 ∧ cmp y x = 0 ∧ cmp y z = -1 ∧ cmp x z = -1)
    ∨ (cmp x y = 0 ∧ cmp y x = 0 ∧ cmp y z = 0 ∧ cmp x z = 0)
    ∨ (cmp x y = 0 ∧ cmp y x = 0 ∧ cmp y z = 1 ∧ cmp x z = 1)
    ∨ (cmp x y = 1 ∧ cmp y x = -1 ∧ cmp y z = -1)
    ∨ (cmp x y = 1 ∧ cmp y x = -1 ∧ cmp y z = 0 ∧ cmp x z = 1)
    ∨ (cmp x y = 1 ∧ cmp y x = -1 ∧ cmp y z = 1 ∧ cmp x z = 1) := by
  have L : ∀ a b : Int, a < b → cmp a b = -1 := fun a b h => by unfold cmp; rw [if_pos h]
  have E : ∀ a : Int, cmp a a = 0 := fun a => (cmp_zero a a).2 rfl
  have G : ∀ a b : Int, b < a → cmp a b = 1 := fun a b h => by unfold cmp; rw [if_neg (by omega), if_neg (by omega)]
  rcases Int.lt_trichotomy x y with h | rfl | h
  · rcases Int.lt_trichotomy y z with h' | rfl | h'
    · exact .inl ⟨L _ _ h, G _ _ h, L _ _ h', L _ _ (by omega)⟩
    · exact .inr (.inl ⟨L _ _ h, G _ _ h, E _, L _ _ h⟩)
    · exact .inr (.inr (.inl ⟨L _ _ h, G _ _ h, G _ _ h'⟩))
  · rcases Int.lt_trichotomy x z with h' | rfl | h'
    · exact .inr (.inr (.inr (.inl ⟨E _, E _, L _ _ h', L _ _ h'⟩)))
    · exact .inr (.inr (.inr (.inr (.inl ⟨E _, E _, E _, E _⟩))))
    · exact .inr (.inr (.inr (.inr (.inr (.inl ⟨E _, E _, G _ _ h', G _ _ h'⟩)))))
  · rcases Int.lt_trichotomy y z with h' | rfl | h'
    · exact .inr (.inr (.inr (.inr (.inr (.inr (.inl ⟨G _ _ h, L _ _ h, L _ _ h'⟩))))))
    · exact .inr (.inr (.inr (.inr (.inr (.inr (.inr (.inl ⟨G _ _ h, L _ _ h, E _, G _ _ h⟩)))))))
    · exact .inr (.inr (.inr (.inr (.inr (.inr (.inr (.inr ⟨G _ _ h, L _ _ h, G _ _ h', G _ _ (by omega)⟩)))))))

theorem bok {w : World} {m s : Int} (h : ckE m s = 0) :
    Calls Tryd.prog 23 #[.agg #[.int .i64 m, .int .i64 s]] w fun e w' => e = .returned (.int .i64 0) ∧ Below w.heap.size w w' := by
  have := bCheck_any (w := w) (m := m) (s := s)
  rw [h] at this
  exact this
theorem goodT {w : World} {m s n t : Int} (h1 : ckE m s = 0) (h2 : ckE n t = 0) :
    Calls Tryd.prog 12 #[.agg #[.int .i64 m, .int .i64 s], .agg #[.int .i64 n, .int .i64 t]] w fun e w' => e = .returned (.bool true) ∧ Below w.heap.size w w' := by
  have HO1 := Lib.hid (fun W : World => of_any (w := W) (m := m) (s := s))
  have HO2 := Lib.hid (fun W : World => of_any (w := W) (m := n) (s := t))
  have HK1 := Lib.hid (fun W : World => bok (w := W) h1)
  have HK2 := Lib.hid (fun W : World => bok (w := W) h2)
  clear h1 h2
  have H0 : Hid (SB w 2 [((w.heap.size + 1), 23, #[.int .i64 n, .int .i64 t]), (w.heap.size, 23, #[.int .i64 m, .int .i64 s])] ((w.alloc (.cells #[.int .i64 m, .int .i64 s] 23)).alloc (.cells #[.int .i64 n, .int .i64 t] 23))) := Lib.hid ((sb1 w 23 _).push (by simp) 23 _)
  go_enter Tryd.func12, Tryd.ntmps12
  go_wp2_with fail
  refine (HO1.out _).mono ?_
  rintro e w1 ⟨rfl, hb⟩
  have HB := Lib.hid (H0.out.call hb)
  clear hb H0
  have q0 := HB.out.bk _ (.head _)
  have c00 := q0.cell 0
  have c01 := q0.cell 1
  clear q0
  have q1 := HB.out.bk _ (.tail _ (.head _))
  have c10 := q1.cell 0
  have c11 := q1.cell 1
  clear q1
  go_wp2_with fail
  refine (HK1.out _).mono ?_
  rintro e w2 ⟨rfl, hb⟩
  clear c00 c01 c10 c11
  have HB2 := Lib.hid (HB.out.call hb)
  clear hb HB
  have HB := HB2
  clear HB2
  have q0 := HB.out.bk _ (.head _)
  have c00 := q0.cell 0
  have c01 := q0.cell 1
  clear q0
  have q1 := HB.out.bk _ (.tail _ (.head _))
  have c10 := q1.cell 0
  have c11 := q1.cell 1
  clear q1
  go_wp2_with fail
  refine (HO2.out _).mono ?_
  rintro e w3 ⟨rfl, hb⟩
  clear c00 c01 c10 c11
  have HB3 := Lib.hid (HB.out.call hb)
  clear hb HB
  have HB := HB3
  clear HB3
  have q0 := HB.out.bk _ (.head _)
  have c00 := q0.cell 0
  have c01 := q0.cell 1
  clear q0
  have q1 := HB.out.bk _ (.tail _ (.head _))
  have c10 := q1.cell 0
  have c11 := q1.cell 1
  clear q1
  go_wp2_with fail
  refine (HK2.out _).mono ?_
  rintro e w4 ⟨rfl, hb⟩
  clear c00 c01 c10 c11
  have HB4 := Lib.hid (HB.out.call hb)
  clear hb HB
  have HB := HB4
  clear HB4
  have hbel := HB.out.bel
  go_wp2
  go_ret
  exact ⟨rfl, hbel⟩

theorem goodF1 {w : World} {m s n t : Int} (h1 : ckE m s = 1) :
    Calls Tryd.prog 12 #[.agg #[.int .i64 m, .int .i64 s], .agg #[.int .i64 n, .int .i64 t]] w fun e w' => e = .returned (.bool false) ∧ Below w.heap.size w w' := by
  have HO1 := Lib.hid (fun W : World => of_any (w := W) (m := m) (s := s))
  have HO2 := Lib.hid (fun W : World => of_any (w := W) (m := n) (s := t))
  have HK1 := Lib.hid (fun W : World => bnot (w := W) h1)
  clear h1
  have H0 : Hid (SB w 2 [((w.heap.size + 1), 23, #[.int .i64 n, .int .i64 t]), (w.heap.size, 23, #[.int .i64 m, .int .i64 s])] ((w.alloc (.cells #[.int .i64 m, .int .i64 s] 23)).alloc (.cells #[.int .i64 n, .int .i64 t] 23))) := Lib.hid ((sb1 w 23 _).push (by simp) 23 _)
  go_enter Tryd.func12, Tryd.ntmps12
  go_wp2_with fail
  refine (HO1.out _).mono ?_
  rintro e w1 ⟨rfl, hb⟩
  have HB := Lib.hid (H0.out.call hb)
  clear hb H0
  have q0 := HB.out.bk _ (.head _)
  have c00 := q0.cell 0
  have c01 := q0.cell 1
  clear q0
  have q1 := HB.out.bk _ (.tail _ (.head _))
  have c10 := q1.cell 0
  have c11 := q1.cell 1
  clear q1
  go_wp2_with fail
  refine (HK1.out _).mono ?_
  rintro e w2 ⟨rfl, hb⟩
  clear c00 c01 c10 c11
  have HB2 := Lib.hid (HB.out.call hb)
  clear hb HB
  have HB := HB2
  clear HB2
  have hbel := HB.out.bel
  go_wp2
  go_ret
  exact ⟨rfl, hbel⟩

theorem goodF2 {w : World} {m s n t : Int} (h1 : ckE m s = 0) (h2 : ckE n t = 1) :
    Calls Tryd.prog 12 #[.agg #[.int .i64 m, .int .i64 s], .agg #[.int .i64 n, .int .i64 t]] w fun e w' => e = .returned (.bool false) ∧ Below w.heap.size w w' := by
  have HO1 := Lib.hid (fun W : World => of_any (w := W) (m := m) (s := s))
  have HO2 := Lib.hid (fun W : World => of_any (w := W) (m := n) (s := t))
  have HK1 := Lib.hid (fun W : World => bok (w := W) h1)
  have HK2 := Lib.hid (fun W : World => bnot (w := W) h2)
  clear h1 h2
  have H0 : Hid (SB w 2 [((w.heap.size + 1), 23, #[.int .i64 n, .int .i64 t]), (w.heap.size, 23, #[.int .i64 m, .int .i64 s])] ((w.alloc (.cells #[.int .i64 m, .int .i64 s] 23)).alloc (.cells #[.int .i64 n, .int .i64 t] 23))) := Lib.hid ((sb1 w 23 _).push (by simp) 23 _)
  go_enter Tryd.func12, Tryd.ntmps12
  go_wp2_with fail
  refine (HO1.out _).mono ?_
  rintro e w1 ⟨rfl, hb⟩
  have HB := Lib.hid (H0.out.call hb)
  clear hb H0
  have q0 := HB.out.bk _ (.head _)
  have c00 := q0.cell 0
  have c01 := q0.cell 1
  clear q0
  have q1 := HB.out.bk _ (.tail _ (.head _))
  have c10 := q1.cell 0
  have c11 := q1.cell 1
  clear q1
  go_wp2_with fail
  refine (HK1.out _).mono ?_
  rintro e w2 ⟨rfl, hb⟩
  clear c00 c01 c10 c11
  have HB2 := Lib.hid (HB.out.call hb)
  clear hb HB
  have HB := HB2
  clear HB2
  have q0 := HB.out.bk _ (.head _)
  have c00 := q0.cell 0
  have c01 := q0.cell 1
  clear q0
  have q1 := HB.out.bk _ (.tail _ (.head _))
  have c10 := q1.cell 0
  have c11 := q1.cell 1
  clear q1
  go_wp2_with fail
  refine (HO2.out _).mono ?_
  rintro e w3 ⟨rfl, hb⟩
  clear c00 c01 c10 c11
  have HB3 := Lib.hid (HB.out.call hb)
  clear hb HB
  have HB := HB3
  clear HB3
  have q0 := HB.out.bk _ (.head _)
  have c00 := q0.cell 0
  have c01 := q0.cell 1
  clear q0
  have q1 := HB.out.bk _ (.tail _ (.head _))
  have c10 := q1.cell 0
  have c11 := q1.cell 1
  clear q1
  go_wp2_with fail
  refine (HK2.out _).mono ?_
  rintro e w4 ⟨rfl, hb⟩
  clear c00 c01 c10 c11
  have HB4 := Lib.hid (HB.out.call hb)
  clear hb HB
  have HB := HB4
  clear HB4
  have hbel := HB.out.bel
  go_wp2
  go_ret
  exact ⟨rfl, hbel⟩

end Go.Proofs.YtfkfgfajdmacbaaDoor
