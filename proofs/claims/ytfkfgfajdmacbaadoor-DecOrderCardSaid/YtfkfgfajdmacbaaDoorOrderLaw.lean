/- cashbooklaw4.DecOrder by its contract: it returns true. Condition: numbers within 64 bits. -/
import Derived.Test.YtfkfgfajdmacbaaDoorOrderB
import Derived.Test.YtfkfgfajdmacbaaDoorOrderC
import Derived.Test.YtfkfgfajdmacbaaDoorOrderD
import Derived.Test.YtfkfgfajdmacbaaDoorOrderE
namespace Go.Proofs.YtfkfgfajdmacbaaDoor
open Go.RowKit

theorem order_good {w : World} {m n k : Int} {s t u : Nat} (hx : Gd m s) (hy : Gd n t) (hz : Gd k u) :
    Calls Tryd.prog 7 #[.agg #[.int .i64 m, .int .i64 (s : Nat)], .agg #[.int .i64 n, .int .i64 (t : Nat)], .agg #[.int .i64 k, .int .i64 (u : Nat)]] w fun e w' => e = .returned (.bool true) ∧ Below w.heap.size w w' := by
  have h0 : cmp (val m s) (val n t) = 0 → m = n ∧ s = t := fun h => val_inj hx hy ((cmp_zero _ _).1 h)
  have h1 : cmp (val m s) (val n t) ≠ 0 → m = n → s ≠ t := fun h h2 h3 => h (by subst h2 h3; exact (cmp_zero _ _).2 rfl)
  rcases order_cases (val m s) (val n t) (val k u) with ⟨e1, e2, e3, e4⟩ | ⟨e1, e2, e3, e4⟩ | ⟨e1, e2, e3⟩ | ⟨e1, e2, e3, e4⟩ | ⟨e1, e2, e3, e4⟩ | ⟨e1, e2, e3, e4⟩ | ⟨e1, e2, e3⟩ | ⟨e1, e2, e3, e4⟩ | ⟨e1, e2, e3, e4⟩
  · by_cases hm : m = n
    · have hs := h1 (by rw [e1]; decide) hm
      subst hm
      exact order_0_st hx hy hz hs e1 e2 e3 e4
    · exact order_0_mn hx hy hz hm e1 e2 e3 e4
  · by_cases hm : m = n
    · have hs := h1 (by rw [e1]; decide) hm
      subst hm
      exact order_1_st hx hy hz hs e1 e2 e3 e4
    · exact order_1_mn hx hy hz hm e1 e2 e3 e4
  · by_cases hm : m = n
    · have hs := h1 (by rw [e1]; decide) hm
      subst hm
      exact order_2_st hx hy hz hs e1 e2 e3
    · exact order_2_mn hx hy hz hm e1 e2 e3
  · obtain ⟨rfl, rfl⟩ := h0 e1
    exact order_3_eq hx hz e1 e2 e3 e4
  · obtain ⟨rfl, rfl⟩ := h0 e1
    exact order_4_eq hx hz e1 e2 e3 e4
  · obtain ⟨rfl, rfl⟩ := h0 e1
    exact order_5_eq hx hz e1 e2 e3 e4
  · by_cases hm : m = n
    · have hs := h1 (by rw [e1]; decide) hm
      subst hm
      exact order_6_st hx hy hz hs e1 e2 e3
    · exact order_6_mn hx hy hz hm e1 e2 e3
  · by_cases hm : m = n
    · have hs := h1 (by rw [e1]; decide) hm
      subst hm
      exact order_7_st hx hy hz hs e1 e2 e3 e4
    · exact order_7_mn hx hy hz hm e1 e2 e3 e4
  · by_cases hm : m = n
    · have hs := h1 (by rw [e1]; decide) hm
      subst hm
      exact order_8_st hx hy hz hs e1 e2 e3 e4
    · exact order_8_mn hx hy hz hm e1 e2 e3 e4

theorem order_any {w : World} {m n k s t u : Int} (m0 : -9223372036854775808 ≤ m) (m1 : m ≤ 9223372036854775807) (n0 : -9223372036854775808 ≤ n) (n1 : n ≤ 9223372036854775807) (k0 : -9223372036854775808 ≤ k) (k1 : k ≤ 9223372036854775807) :
    Calls Tryd.prog 7 #[.agg #[.int .i64 m, .int .i64 s], .agg #[.int .i64 n, .int .i64 t], .agg #[.int .i64 k, .int .i64 u]] w fun e w' => e = .returned (.bool true) ∧ Below w.heap.size w w' := by
  have HK := Lib.hid (fun W : World => known4_any W)
  rcases ckE_cases m s with ha | ha
  · rcases ckE_cases n t with hb | hb
    · rcases ckE_cases k u with hc | hc
      · obtain ⟨s', rfl, ga⟩ := gd_of ha m0 m1
        obtain ⟨t', rfl, gb⟩ := gd_of hb n0 n1
        obtain ⟨u', rfl, gc⟩ := gd_of hc k0 k1
        exact order_good ga gb gc
      · have HG1 := Lib.hid (fun W : World => goodT (w := W) ha hb)
        have HG2 := Lib.hid (fun W : World => goodF2 (w := W) hb hc)
        clear ha hb hc
        clear m0 m1 n0 n1 k0 k1
        have H0 : Hid (SB w 3 [((w.heap.size + 1 + 1), 23, #[.int .i64 k, .int .i64 u]), ((w.heap.size + 1), 23, #[.int .i64 n, .int .i64 t]), (w.heap.size, 23, #[.int .i64 m, .int .i64 s])] (((w.alloc (.cells #[.int .i64 m, .int .i64 s] 23)).alloc (.cells #[.int .i64 n, .int .i64 t] 23)).alloc (.cells #[.int .i64 k, .int .i64 u] 23))) := Lib.hid (((sb1 w 23 _).push (by simp) 23 _).push (by simp) 23 _)
        go_enter Tryd.func7, Tryd.ntmps7
        go_wp2_with fail
        refine (HK.out _).mono ?_
        rintro e w1 ⟨rfl, hb⟩
        have HB := Lib.hid (H0.out.call hb)
        clear hb H0
        have q0 := HB.out.bk _ (.head _)
        have c00 := q0.cell 0
        have c01 := q0.cell 1
        clear q0
        have q1 := HB.out.bk _ (.tail _ (.head _))
        have c10 := q1.cell 0
        have c11 := q1.cell 1
        clear q1
        have q2 := HB.out.bk _ (.tail _ (.tail _ (.head _)))
        have c20 := q2.cell 0
        have c21 := q2.cell 1
        clear q2
        go_wp2_with fail
        refine (HG1.out _).mono ?_
        rintro e w2 ⟨rfl, hb⟩
        clear c00 c01 c10 c11 c20 c21
        have HB2 := Lib.hid (HB.out.call hb)
        clear hb HB
        have HB := HB2
        clear HB2
        have q0 := HB.out.bk _ (.head _)
        have c00 := q0.cell 0
        have c01 := q0.cell 1
        clear q0
        have q1 := HB.out.bk _ (.tail _ (.head _))
        have c10 := q1.cell 0
        have c11 := q1.cell 1
        clear q1
        have q2 := HB.out.bk _ (.tail _ (.tail _ (.head _)))
        have c20 := q2.cell 0
        have c21 := q2.cell 1
        clear q2
        go_wp2_with fail
        refine (HG2.out _).mono ?_
        rintro e w3 ⟨rfl, hb⟩
        clear c00 c01 c10 c11 c20 c21
        have HB3 := Lib.hid (HB.out.call hb)
        clear hb HB
        have HB := HB3
        clear HB3
        have hbel := HB.out.bel
        go_wp2
        go_ret
        exact ⟨rfl, hbel⟩
    · have HG1 := Lib.hid (fun W : World => goodF2 (w := W) ha hb)
      clear ha hb
      clear m0 m1 n0 n1 k0 k1
      have H0 : Hid (SB w 3 [((w.heap.size + 1 + 1), 23, #[.int .i64 k, .int .i64 u]), ((w.heap.size + 1), 23, #[.int .i64 n, .int .i64 t]), (w.heap.size, 23, #[.int .i64 m, .int .i64 s])] (((w.alloc (.cells #[.int .i64 m, .int .i64 s] 23)).alloc (.cells #[.int .i64 n, .int .i64 t] 23)).alloc (.cells #[.int .i64 k, .int .i64 u] 23))) := Lib.hid (((sb1 w 23 _).push (by simp) 23 _).push (by simp) 23 _)
      go_enter Tryd.func7, Tryd.ntmps7
      go_wp2_with fail
      refine (HK.out _).mono ?_
      rintro e w1 ⟨rfl, hb⟩
      have HB := Lib.hid (H0.out.call hb)
      clear hb H0
      have q0 := HB.out.bk _ (.head _)
      have c00 := q0.cell 0
      have c01 := q0.cell 1
      clear q0
      have q1 := HB.out.bk _ (.tail _ (.head _))
      have c10 := q1.cell 0
      have c11 := q1.cell 1
      clear q1
      have q2 := HB.out.bk _ (.tail _ (.tail _ (.head _)))
      have c20 := q2.cell 0
      have c21 := q2.cell 1
      clear q2
      go_wp2_with fail
      refine (HG1.out _).mono ?_
      rintro e w2 ⟨rfl, hb⟩
      clear c00 c01 c10 c11 c20 c21
      have HB2 := Lib.hid (HB.out.call hb)
      clear hb HB
      have HB := HB2
      clear HB2
      have hbel := HB.out.bel
      go_wp2
      go_ret
      exact ⟨rfl, hbel⟩
  · have HG1 := Lib.hid (fun W : World => goodF1 (w := W) (n := n) (t := t) ha)
    clear ha
    clear m0 m1 n0 n1 k0 k1
    have H0 : Hid (SB w 3 [((w.heap.size + 1 + 1), 23, #[.int .i64 k, .int .i64 u]), ((w.heap.size + 1), 23, #[.int .i64 n, .int .i64 t]), (w.heap.size, 23, #[.int .i64 m, .int .i64 s])] (((w.alloc (.cells #[.int .i64 m, .int .i64 s] 23)).alloc (.cells #[.int .i64 n, .int .i64 t] 23)).alloc (.cells #[.int .i64 k, .int .i64 u] 23))) := Lib.hid (((sb1 w 23 _).push (by simp) 23 _).push (by simp) 23 _)
    go_enter Tryd.func7, Tryd.ntmps7
    go_wp2_with fail
    refine (HK.out _).mono ?_
    rintro e w1 ⟨rfl, hb⟩
    have HB := Lib.hid (H0.out.call hb)
    clear hb H0
    have q0 := HB.out.bk _ (.head _)
    have c00 := q0.cell 0
    have c01 := q0.cell 1
    clear q0
    have q1 := HB.out.bk _ (.tail _ (.head _))
    have c10 := q1.cell 0
    have c11 := q1.cell 1
    clear q1
    have q2 := HB.out.bk _ (.tail _ (.tail _ (.head _)))
    have c20 := q2.cell 0
    have c21 := q2.cell 1
    clear q2
    go_wp2_with fail
    refine (HG1.out _).mono ?_
    rintro e w2 ⟨rfl, hb⟩
    clear c00 c01 c10 c11 c20 c21
    have HB2 := Lib.hid (HB.out.call hb)
    clear hb HB
    have HB := HB2
    clear HB2
    have hbel := HB.out.bel
    go_wp2
    go_ret
    exact ⟨rfl, hbel⟩
end Go.Proofs.YtfkfgfajdmacbaaDoor
