/- Places, values, slots compared by == and !=. No condition. -/
import Derived.Test.YtkjiokepihmpfaaDoorEb14
set_option linter.unusedVariables false
set_option linter.unusedSimpArgs false
namespace Go.Proofs.YtkjiokepihmpfaaDoor
open Go.RowKit

def eqS (x y : Sl) : Bool := eqP x.p y.p && eqV x.v y.v
theorem eqS_iff {x y : Sl} : eqS x y = true ↔ x = y := by
  unfold eqS
  rw [Bool.and_eq_true, eqP_iff, eqV_iff]
  obtain ⟨p1, p2⟩ := x
  obtain ⟨q1, q2⟩ := y
  simp
section
variable {o : Oper} {a : Act} {W : World}
theorem run_eqlp {p q : Pl} (x y : Operand) (ho : o.op = .binOp .eql 40 x y 40) (hx : a.eval x = .agg (plc p).toArray) (hy : a.eval y = .agg (plc q).toArray) : (execOp a.eval o).run Tryd.prog W = .ok (.value (.bool (eqP p q))) W := by
  unfold execOp
  rw [ho]
  simp only [hx, hy]
  clear ho hx hy
  simp only [plc]
  cases hv : eqP p q with
  | true =>
    obtain rfl := eqP_iff.1 hv
    go_simp
  | false =>
    have h : ¬ (p.s = q.s ∧ p.r = q.r ∧ p.c = q.c) := of_decide_eq_false hv
    clear hv
    go_simp
    intro h1 h2 h3; exact h ⟨h1, h2, h3⟩
theorem run_neqp {p q : Pl} (x y : Operand) (ho : o.op = .binOp .neq 40 x y 40) (hx : a.eval x = .agg (plc p).toArray) (hy : a.eval y = .agg (plc q).toArray) : (execOp a.eval o).run Tryd.prog W = .ok (.value (.bool (!eqP p q))) W := by
  unfold execOp
  rw [ho]
  simp only [hx, hy]
  clear ho hx hy
  simp only [plc]
  cases hv : eqP p q with
  | true =>
    obtain rfl := eqP_iff.1 hv
    go_simp
  | false =>
    have h : ¬ (p.s = q.s ∧ p.r = q.r ∧ p.c = q.c) := of_decide_eq_false hv
    clear hv
    go_simp
    intro h1 h2 h3; exact h ⟨h1, h2, h3⟩
theorem run_eqlv {p q : Va} (x y : Operand) (ho : o.op = .binOp .eql 32 x y 32) (hx : a.eval x = .agg (vac p).toArray) (hy : a.eval y = .agg (vac q).toArray) : (execOp a.eval o).run Tryd.prog W = .ok (.value (.bool (eqV p q))) W := by
  unfold execOp
  rw [ho]
  simp only [hx, hy]
  clear ho hx hy
  simp only [vac]
  cases hv : eqV p q with
  | true =>
    obtain rfl := eqV_iff.1 hv
    go_simp
  | false =>
    have h : ¬ (p.k = q.k ∧ p.m = q.m ∧ p.d = q.d ∧ p.t = q.t ∧ p.b = q.b ∧ p.e = q.e) := of_decide_eq_false hv
    clear hv
    go_simp
    intro h1 h2 h3 h4 h5 h6; exact h ⟨h1, h2, h3, toList_inj h4, h5, h6⟩
theorem run_neqv {p q : Va} (x y : Operand) (ho : o.op = .binOp .neq 32 x y 32) (hx : a.eval x = .agg (vac p).toArray) (hy : a.eval y = .agg (vac q).toArray) : (execOp a.eval o).run Tryd.prog W = .ok (.value (.bool (!eqV p q))) W := by
  unfold execOp
  rw [ho]
  simp only [hx, hy]
  clear ho hx hy
  simp only [vac]
  cases hv : eqV p q with
  | true =>
    obtain rfl := eqV_iff.1 hv
    go_simp
  | false =>
    have h : ¬ (p.k = q.k ∧ p.m = q.m ∧ p.d = q.d ∧ p.t = q.t ∧ p.b = q.b ∧ p.e = q.e) := of_decide_eq_false hv
    clear hv
    go_simp
    intro h1 h2 h3 h4 h5 h6; exact h ⟨h1, h2, h3, toList_inj h4, h5, h6⟩
theorem run_neqs {p q : Sl} (x y : Operand) (ho : o.op = .binOp .neq 44 x y 44) (hx : a.eval x = .agg (slc p).toArray) (hy : a.eval y = .agg (slc q).toArray) : (execOp a.eval o).run Tryd.prog W = .ok (.value (.bool (!eqS p q))) W := by
  unfold execOp
  rw [ho]
  simp only [hx, hy]
  clear ho hx hy
  simp only [slc, plc, vac, List.cons_append, List.nil_append]
  cases hv : eqS p q with
  | true =>
    obtain rfl := eqS_iff.1 hv
    go_simp
  | false =>
    have h : ¬ (p = q) := fun e => by rw [eqS_iff.2 e] at hv; cases hv
    clear hv
    go_simp
    intro h1 h2 h3 h4 h5 h6 h7 h8 h9
    apply h
    obtain ⟨p1, p2⟩ := p
    obtain ⟨q1, q2⟩ := q
    rw [Sl.mk.injEq]
    exact ⟨Pl.ext' h1 h2 h3, Va.ext' h4 h5 h6 (toList_inj h7) h8 h9⟩
end
end Go.Proofs.YtkjiokepihmpfaaDoor

