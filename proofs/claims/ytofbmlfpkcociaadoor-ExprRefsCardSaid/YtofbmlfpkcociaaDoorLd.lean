/- Formulas as a whole in regions that draw their order. No condition. -/
import Derived.Test.YtofbmlfpkcociaaDoorGs
import Derived.Test.YtofbmlfpkcociaaDoorPhase
set_option linter.unusedVariables false
set_option linter.unusedSimpArgs false
namespace Go.Proofs.YtofbmlfpkcociaaDoor
open Go.RowKit

section
variable {P : Program} {S : World → Prop} {E : World → World → Prop} {R : Value → World → Prop} {w w' : World} {o : Oper} {a : Act} {v : Value}
theorem lands_v (h : (execOp a.eval o).run P w = .ok (.value v) w') (hR : R v w' ∧ S w' ∧ E w w') : Lands P S E R w ((execOp a.eval o).run P w) := by
  rw [h]
  exact hR
end
theorem run_ld {W : World} {o : Oper} {a : Act} {g : Nat} {p : Pay} {k : Value} (x : Operand) (ho : o.op = .load 43 x) (hx : a.eval x = .pointer (some ⟨g, 0, none⟩)) (hb : Bk W g 43 (ec p k).toArray) :
    (execOp a.eval o).run Tryd.prog W = .ok (.value (.agg (ec p k).toArray)) W := by
  unfold execOp
  simp only [ho, hx, Instr.loadAt, Instr.sureAddr, Sem.run_bind, Sem.run_pure, Result.andThen_ok, run_loadVar_row W g 43 43 _ (0, 0) _ hb Tryd.underlying43 rfl (by rw [ec_size]; kernel_rfl)]
theorem run_ldm {W : World} {o : Oper} {a : Act} {q : Addr} {p : Pay} {k : Value} (x : Operand) (ho : o.op = .load 43 x) (hx : a.eval x = .pointer (some q)) (hb : ∀ (j : Nat) (u : Value), (ec p k)[j]? = some u → W.cell? (q.add j) = some u) :
    (execOp a.eval o).run Tryd.prog W = .ok (.value (.agg (ec p k).toArray)) W := by
  unfold execOp
  simp only [ho, hx, Instr.loadAt, Instr.sureAddr, Sem.run_bind, Sem.run_pure, Result.andThen_ok, load_any W q _ (ec p k) _ hb Tryd.underlying43 rfl (by rw [ec_len]; kernel_rfl)]
section
variable {P : Program} {S : World → Prop} {E : World → World → Prop} {R : Value → World → Prop} {W : World} {o : Oper} {a : Act}
theorem lands_st {ty T : TypeId} {g : Nat} (x y : Operand) {cs vs : List Value} (ho : o.op = .store ty x y) (hx : a.eval x = .pointer (some ⟨g, 0, none⟩)) (hy : a.eval y = .agg vs.toArray) (hi : (P.info? ty).map (·.size) = some vs.length)
    (h1 : ∀ v ∈ vs, v.oneCell' = true) (hb : Bk W g T cs.toArray) (hl : cs.length = vs.length) (h : R undef (W.setCells g 0 vs) ∧ S (W.setCells g 0 vs) ∧ E W (W.setCells g 0 vs)) : Lands P S E R W ((execOp a.eval o).run P W) := by
  have ht : W.there g 0 vs.toArray.size := fun j hj => by
    rw [List.size_toArray] at hj
    rw [Nat.zero_add, hb.cell, hb.frozen]
    exact ⟨by simp; omega, rfl⟩
  have hr : (execOp a.eval o).run P W = .ok .skip (W.setCells g 0 vs) := by
    unfold execOp
    simp only [ho, hx, hy, Instr.storeAt, Instr.sureAddr, Sem.run_bind, Sem.run_pure, Result.andThen_ok, run_storeVar_mid W g 0 ty vs.toArray ht (by rw [List.size_toArray]; exact hi) (all_oneCell_toArray h1)]
  rw [hr]
  exact h
/-- The whole of a box filled. -/
theorem filled {g : Nat} {T : TypeId} {cs vs : List Value} (hb : Bk W g T cs.toArray) (hl : cs.length = vs.length) : Bk (W.setCells g 0 vs) g T vs.toArray := by
  have h2 := setCells_bk vs 0 cs W hb (by omega)
  rw [Nat.zero_add, List.drop_eq_nil_of_le (by omega), List.append_nil] at h2
  simpa using h2
end
end Go.Proofs.YtofbmlfpkcociaaDoor
