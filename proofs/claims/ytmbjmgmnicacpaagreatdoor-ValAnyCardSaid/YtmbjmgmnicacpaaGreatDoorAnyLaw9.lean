/- cashbooklaw9.ValAny by its contract, for any two values. Condition: utf8.ValidString and strconv.FormatUint keep their contracts; texts' lengths are such. -/
import Derived.Test.YtmbjmgmnicacpaaGreatDoorAnyA
import Derived.Test.YtmbjmgmnicacpaaGreatDoorAnyB
import Derived.Test.YtmbjmgmnicacpaaGreatDoorR4
import Derived.Test.YtmbjmgmnicacpaaGreatDoorV2
import Derived.Test.YtmbjmgmnicacpaaGreatDoorDt
import Derived.Test.YtmbjmgmnicacpaaGreatDoorPd4
namespace Go.Proofs.YtmbjmgmnicacpaaGreatDoor
open Go.RowKit

theorem l_eq {l m : List UInt8} (h : (l == m) = false) : ((⟨l.toArray⟩ : ByteArray).toList == m) = false := by rw [ByteArray.toList_eq]; exact h
theorem short_le {x : VX} {n m : Nat} (h : shortX n x) (hm : n ≤ m) : shortX m x := by
  cases x <;> first | trivial | exact Nat.le_trans h hm

theorem valAny_any {w : World} (HT : Tens w) (HV : Val w) (k1 m1 s1 : Int) (t1 : ByteArray) (b1 : Bool) (e1 : Int) (k2 m2 s2 : Int) (t2 : ByteArray) (b2 : Bool) (e2 : Int)
    (l1 : -9223372036854775808 ≤ m1) (u1 : m1 ≤ 9223372036854775807) (l2 : -9223372036854775808 ≤ m2) (u2 : m2 ≤ 9223372036854775807) :
    Calls Tryz.prog 3 #[.agg #[.int .i64 k1, .int .i64 m1, .int .i64 s1, .string t1, .bool b1, .int .i64 e1], .agg #[.int .i64 k2, .int .i64 m2, .int .i64 s2, .string t2, .bool b2, .int .i64 e2]] w fun x w' => x = .returned (.bool true) ∧ Below w.heap.size w w' := by
  by_cases h1 : 3000 < t1.size
  · exact any_long1 h1
  by_cases h2 : 3000 < t2.size
  · exact any_long2 (by omega) h2
  have g1 : t1.size ≤ 3000 := by omega
  have g2 : t2.size ≤ 3000 := by omega
  have c1 : ∀ W : World, Below w.heap.size w W → Calls Tryz.prog 6 #[.agg #[.int .i64 k1, .int .i64 m1, .int .i64 s1, .string t1, .bool b1, .int .i64 e1]] W fun x w' => x = .returned (.int .i64 (ckV k1 m1 s1 t1 b1 e1)) ∧ Below W.heap.size W w' := fun W hb => check_v (HV.below hb) k1 m1 s1 t1 b1 e1 (by omega)
  have d1 : ∀ W : World, Calls Tryz.prog 7 #[.agg #[.int .i64 k1, .int .i64 m1, .int .i64 s1, .string t1, .bool b1, .int .i64 e1]] W fun x w' => x = .returned (.int .i64 (ckV k1 m1 s1 t1 b1 e1)) ∧ Below W.heap.size W w' := fun W => checkVal_any k1 m1 s1 t1 b1 e1 (by omega)
  have d2 : ∀ W : World, Calls Tryz.prog 7 #[.agg #[.int .i64 k2, .int .i64 m2, .int .i64 s2, .string t2, .bool b2, .int .i64 e2]] W fun x w' => x = .returned (.int .i64 (ckV k2 m2 s2 t2 b2 e2)) ∧ Below W.heap.size W w' := fun W => checkVal_any k2 m2 s2 t2 b2 e2 (by omega)
  have sm : ∀ W : World, Calls Tryz.prog 8 #[.agg #[.int .i64 k1, .int .i64 m1, .int .i64 s1, .string t1, .bool b1, .int .i64 e1], .agg #[.int .i64 k2, .int .i64 m2, .int .i64 s2, .string t2, .bool b2, .int .i64 e2]] W fun x w' => x = .returned (.bool (sameB k1 m1 s1 t1 b1 e1 k2 m2 s2 t2 b2 e2)) ∧ Below W.heap.size W w' := fun W => same_any k1 m1 s1 t1 b1 e1 k2 m2 s2 t2 b2 e2
  by_cases z1 : ¬ ckV k1 m1 s1 t1 b1 e1 = 0
  · exact any_bad1 g1 g2 rfl z1 c1 d1 sm
  replace z1 := Decidable.not_not.1 z1
  rw [z1] at c1 d1
  by_cases z2 : ¬ ckV k2 m2 s2 t2 b2 e2 = 0
  · exact any_bad2 g1 g2 rfl z2 c1 d1 sm d2
  replace z2 := Decidable.not_not.1 z2
  rw [z2] at d2
  obtain ⟨x, hx, sx, -, ex⟩ := ckV_form z1 l1 u1
  obtain ⟨y, hy, sy, -, ey⟩ := ckV_form z2 l2 u2
  have cm : ∀ W : World, Calls Tryz.prog 18 #[.agg #[.int .i64 k1, .int .i64 m1, .int .i64 s1, .string t1, .bool b1, .int .i64 e1], .agg #[.int .i64 k2, .int .i64 m2, .int .i64 s2, .string t2, .bool b2, .int .i64 e2]] W fun v w' => v = .returned (.int .i64 (cmpX x y)) ∧ Below W.heap.size W w' := fun W => by
    have := cmpx_any (w := W) hx hy (short_le sx (by omega)) (short_le sy (by omega))
    rw [← ex, ← ey] at this
    exact this
  have bcm : ∀ W : World, Calls Tryz.prog 19 #[.agg #[.int .i64 k1, .int .i64 m1, .int .i64 s1, .string t1, .bool b1, .int .i64 e1], .agg #[.int .i64 k2, .int .i64 m2, .int .i64 s2, .string t2, .bool b2, .int .i64 e2]] W fun v w' => v = .returned (.int .i64 (cmpX x y)) ∧ Below W.heap.size W w' := fun W => by
    have := bcmpx_any (w := W) hx hy
    rw [← ex, ← ey] at this
    exact this
  have fin := fun {n1 n2 : Int} {p0 p1 p2 : Int} {p3 : ByteArray} {p4 : Bool} {p5 : Int} {ok1 : Bool} {T : ByteArray} {q0 q1 q2 : Int} {q3 : ByteArray} {q4 : Bool} {q5 : Int} {ok2 c : Bool} {r0 r1 r2 : Int} {r3 : ByteArray} {r4 : Bool} {r5 : Int} {ok3 : Bool} {T2 : ByteArray} nu bnu wo bwo tr btr tx btx =>
    any_good (w := w) (n1 := n1) (n2 := n2) (p0 := p0) (p1 := p1) (p2 := p2) (p3 := p3) (p4 := p4) (p5 := p5) (ok1 := ok1) (T := T) (q0 := q0) (q1 := q1) (q2 := q2) (q3 := q3) (q4 := q4) (q5 := q5) (ok2 := ok2) (c := c) (r0 := r0) (r1 := r1) (r2 := r2) (r3 := r3) (r4 := r4) (r5 := r5) (ok3 := ok3) (T2 := T2) g1 g2 rfl c1 d1 sm d2 nu bnu wo bwo tr btr tx btx cm bcm
  rw [ex] at fin
  rw [ex]
  clear c1 d1 d2 sm cm bcm
  cases x with
  | blank => exact fin (fun W => number_blank) (fun W => bNumber_blank) (fun W _ => words_blank) (fun W => bWords_blank) (fun W => truth_blank) (fun W => bTruth_blank) (fun W _ => text_blank) (fun W => bText_blank)
  | num m s =>
    have hd : ∀ W : World, Calls Tryz.prog 37 #[.agg #[.int .i64 m, .int .i64 (s : Nat)]] W fun x w' => x = .returned (sL (decTx m s)) ∧ Below W.heap.size W w' := fun W => decText_any hx
    by_cases hm : m = 0
    · subst hm
      exact fin (fun W => number_num _ _) (fun W => bNumber_num _ _) (fun W hb => words_num (HT.below hb) hx) (fun W => bWords_num hd) (fun W => truth_num0 _) (fun W => bTruth_num0 _) (fun W hb => text_num (HT.below hb) hx) (fun W => bText_num hd)
    · exact fin (fun W => number_num _ _) (fun W => bNumber_num _ _) (fun W hb => words_num (HT.below hb) hx) (fun W => bWords_num hd) (fun W => truth_numn _ _ hm) (fun W => bTruth_numn _ _ hm) (fun W hb => text_num (HT.below hb) hx) (fun W => bText_num hd)
  | str l =>
    have hll : l.length ≤ t1.size := sx
    have hp : ∀ W : World, Calls Tryz.prog 31 #[.string ⟨l.toArray⟩] W fun x w' => x = .returned (dv (pD l)) ∧ Below W.heap.size W w' := fun W => parse_l (w := W) l (by omega)
    have hbp : ∀ W : World, Calls Tryz.prog 33 #[.string ⟨l.toArray⟩] W fun x w' => x = .returned (dv (pD l)) ∧ Below W.heap.size W w' := fun W => parseDec_any (w := W) ⟨l.toArray⟩ (by rw [bsize]; omega)
    generalize pD l = D at *
    obtain ⟨m, s, e⟩ := D
    by_cases he : e = 0
    · subst he
      have nu := fun W : World => number_str (w := W) hp
      have bnu := fun W : World => bNumber_str (w := W) hbp
      by_cases q1 : l = [84, 82, 85, 69]
      · subst q1
        exact fin nu bnu (fun W _ => words_str _) (fun W => bWords_str _) (fun W => truth_yes) (fun W => bTruth_yes) (fun W _ => text_str _) (fun W => bText_str _)
      · by_cases q2 : l = [70, 65, 76, 83, 69]
        · subst q2
          exact fin nu bnu (fun W _ => words_str _) (fun W => bWords_str _) (fun W => truth_no) (fun W => bTruth_no) (fun W _ => text_str _) (fun W => bText_str _)
        · have n1 : (l == [84, 82, 85, 69]) = false := beq_eq_false_iff_ne.2 q1
          have n2 : (l == [70, 65, 76, 83, 69]) = false := beq_eq_false_iff_ne.2 q2
          exact fin nu bnu (fun W _ => words_str _) (fun W => bWords_str _) (fun W => truth_none _ (l_eq n1) (l_eq n2)) (fun W => bTruth_none _ (l_eq n1) (l_eq n2)) (fun W _ => text_str _) (fun W => bText_str _)
    · have he1 : ¬ (e : Int) = 0 := by omega
      have nu := fun W : World => number_none (w := W) he1 hp
      have bnu := fun W : World => bNumber_none (w := W) (bne_iff_ne.2 he1) hbp
      by_cases q1 : l = [84, 82, 85, 69]
      · subst q1
        exact fin nu bnu (fun W _ => words_str _) (fun W => bWords_str _) (fun W => truth_yes) (fun W => bTruth_yes) (fun W _ => text_str _) (fun W => bText_str _)
      · by_cases q2 : l = [70, 65, 76, 83, 69]
        · subst q2
          exact fin nu bnu (fun W _ => words_str _) (fun W => bWords_str _) (fun W => truth_no) (fun W => bTruth_no) (fun W _ => text_str _) (fun W => bText_str _)
        · have n1 : (l == [84, 82, 85, 69]) = false := beq_eq_false_iff_ne.2 q1
          have n2 : (l == [70, 65, 76, 83, 69]) = false := beq_eq_false_iff_ne.2 q2
          exact fin nu bnu (fun W _ => words_str _) (fun W => bWords_str _) (fun W => truth_none _ (l_eq n1) (l_eq n2)) (fun W => bTruth_none _ (l_eq n1) (l_eq n2)) (fun W _ => text_str _) (fun W => bText_str _)
  | bool b =>
    cases b
    · exact fin (fun W => number_bool _) (fun W => bNumber_false) (fun W _ => words_bool _) (fun W => bWords_bool _) (fun W => truth_bool _) (fun W => bTruth_bool _) (fun W _ => text_bool _) (fun W => bText_bool _)
    · exact fin (fun W => number_bool _) (fun W => bNumber_true) (fun W _ => words_bool _) (fun W => bWords_bool _) (fun W => truth_bool _) (fun W => bTruth_bool _) (fun W _ => text_bool _) (fun W => bText_bool _)
  | err e => exact fin (fun W => number_err _) (fun W => bNumber_err _) (fun W _ => words_err _) (fun W => bWords_err _) (fun W => truth_err _) (fun W => bTruth_err _) (fun W _ => text_err _) (fun W => bText_err _)
end Go.Proofs.YtmbjmgmnicacpaaGreatDoor
