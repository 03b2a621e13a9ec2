/- Boxes told as a list in regions that draw their order. No condition. -/
import Derived.Test.YtkjiokepihmpfaaDoorBX
import Derived.Test.YtkjiokepihmpfaaDoorPhase
import Derived.Test.YtkjiokepihmpfaaDoorLit
import Derived.Test.YtkjiokepihmpfaaDoorForm
set_option linter.unusedVariables false
set_option linter.unusedSimpArgs false
namespace Go.Proofs.YtkjiokepihmpfaaDoor
open Go.RowKit

section
variable {P : Program} {S : World → Prop} {E : World → World → Prop} {R : Value → World → Prop} {w w' : World} {o : Oper} {a : Act} {v : Value}
theorem lands_vB (h : (execOp a.eval o).run P w = .ok (.value v) w') (hR : R v w' ∧ S w' ∧ E w w') : Lands P S E R w ((execOp a.eval o).run P w) := by
  rw [h]
  exact hR
end
/-- Which boxes there are when so many stores are done. -/
def SBN (w : World) : List Bxs → List Value → World → Prop
  | [], _, _ => False
  | [B], _, W => BX w B W
  | B :: _ :: _, [], W => BX w B W
  | _ :: B :: Bs, _ :: vals, W => SBN w (B :: Bs) vals W
def AllGet (i : Nat) (x : Nat × TypeId × List Value) : List Bxs → Prop
  | [] => True
  | B :: Bs => B[i]? = some x ∧ AllGet i x Bs
theorem SBN.any {w W : World} : ∀ {Bs : List Bxs} {vals : List Value}, SBN w Bs vals W → ∃ B ∈ Bs, BX w B W
  | [], _, h => h.elim
  | [B], _, h => ⟨B, List.mem_cons_self .., h⟩
  | B :: _ :: _, [], h => ⟨B, List.mem_cons_self .., h⟩
  | _ :: B :: Bs, _ :: vals, h => by
    obtain ⟨C, hC, hb⟩ := SBN.any (Bs := B :: Bs) (vals := vals) h
    exact ⟨C, List.mem_cons_of_mem _ hC, hb⟩
theorem allGet_mem {i : Nat} {x : Nat × TypeId × List Value} : ∀ {Bs : List Bxs}, AllGet i x Bs → ∀ B ∈ Bs, B[i]? = some x
  | B :: Bs, h, C, hC => by
    rcases List.mem_cons.1 hC with rfl | hC
    · exact h.1
    · exact allGet_mem h.2 C hC
section
variable {w W W' : World} {vals : List Value} {g i : Nat} {ty : TypeId} {cs vs : List Value}
theorem SBN.call : ∀ {Bs : List Bxs} {vals : List Value}, SBN w Bs vals W → Below W.heap.size W W' → SBN w Bs vals W'
  | [], _, h, _ => h.elim
  | [B], _, h, hb => BX.call h hb
  | B :: _ :: _, [], h, hb => BX.call h hb
  | _ :: B :: Bs, _ :: vals, h, hb => SBN.call (Bs := B :: Bs) (vals := vals) h hb
theorem SBN.bel {Bs : List Bxs} (h : SBN w Bs vals W) : Below w.heap.size w W := by
  obtain ⟨B, -, hb⟩ := h.any
  exact hb.bel
theorem SBN.get {Bs : List Bxs} (h : SBN w Bs vals W) (i : Nat) (hi : AllGet i (g, ty, cs) Bs) : Bk W g ty cs.toArray := by
  obtain ⟨B, hB, hb⟩ := h.any
  exact hb.get (allGet_mem hi B hB)
end
section
variable {o : Oper} {a : Act} {w W : World} {g i : Nat} {ty : TypeId} {cs vs : List Value} {bs : Bxs}
theorem run_ldmB (T : RowT ty cs.length) {q : Addr} (hb : ∀ (j : Nat) (u : Value), cs[j]? = some u → W.cell? (q.add j) = some u) (x : Operand) (ho : o.op = .load ty x) (hx : a.eval x = .pointer (some q)) :
    (execOp a.eval o).run Tryd.prog W = .ok (.value (.agg cs.toArray)) W := by
  obtain ⟨d, hu, hd⟩ := T.und
  unfold execOp
  simp only [ho, hx, Instr.loadAt, Instr.sureAddr, Sem.run_bind, Sem.run_pure, Result.andThen_ok, load_any W q _ cs _ hb hu hd T.size]
theorem run_ldg (T : RowT ty cs.length) (hb : Bk W g ty cs.toArray) (x : Operand) (ho : o.op = .load ty x) (hx : a.eval x = .pointer (some ⟨g, 0, none⟩)) :
    (execOp a.eval o).run Tryd.prog W = .ok (.value (.agg cs.toArray)) W :=
  run_ldmB T (fun j u hu => by
    have e : (⟨g, 0, none⟩ : Addr).add j = ⟨g, j, none⟩ := by unfold Addr.add; split <;> simp_all
    rw [e, hb.cell]; simpa using hu) x ho hx
theorem lands_stg {S : World → Prop} {E : World → World → Prop} {R : Value → World → Prop} (T : RowT ty vs.length) (h1 : ∀ u ∈ vs, u.oneCell' = true) (H : BX w bs W) (hi : bs[i]? = some (g, ty, cs)) (hl : cs.length = vs.length) (x y : Operand) (ho : o.op = .store ty x y) (hx : a.eval x = .pointer (some ⟨g, 0, none⟩)) (hy : a.eval y = .agg vs.toArray)
    (h : ∀ W', BX w (bs.set i (g, ty, vs)) W' → R undef W' ∧ S W' ∧ E W W') : Lands Tryd.prog S E R W ((execOp a.eval o).run Tryd.prog W) := by
  have hb := H.get hi
  have ht : W.there g 0 vs.toArray.size := fun j hj => by
    rw [List.size_toArray] at hj
    rw [Nat.zero_add, hb.cell, hb.frozen]
    exact ⟨by simp; omega, rfl⟩
  have hr : (execOp a.eval o).run Tryd.prog W = .ok .skip (W.setCells g 0 vs) := by
    unfold execOp
    simp only [ho, hx, hy, Instr.storeAt, Instr.sureAddr, Sem.run_bind, Sem.run_pure, Result.andThen_ok, run_storeVar_mid W g 0 ty vs.toArray ht (by rw [List.size_toArray]; exact T.size) (all_oneCell_toArray h1)]
  rw [hr]
  have h2 := setCells_bk vs 0 cs W hb (by omega)
  have e : cs.take 0 ++ vs ++ cs.drop (0 + vs.length) = vs := by simp [List.drop_eq_nil_of_le (Nat.le_of_eq hl)]
  rw [e] at h2
  exact h _ (H.turn hi h2 (setCells_keep _ _ _))
end
section
variable {o : Oper} {a : Act} {w W : World} {K : Act → World → Prop} {Q : Exit → Act → World → Prop} {bs : Bxs} {g k : Nat} {T : TypeId} {cs : List Value}
theorem ld_ec (i : Nat) (H : Hid (BX w bs W)) {p : Pay} {A : Option Addr} {n c : Nat} (hi : bs[i]? = some (g, 83, ec p (.slice A n c))) (x : Operand) (ho : o.op = .load 83 x) (hx : a.eval x = .pointer (some ⟨g, 0, none⟩)) (h : K (a.put o.dst (.agg (ec p (.slice A n c)).toArray)) W) : o.wp Tryd.prog a W K Q := ld_g rtExpr H hi x ho hx h
theorem st_ec (i : Nat) (H : Hid (BX w bs W)) {p : Pay} {A : Option Addr} {n c : Nat} {p0 : Pay} {k0 : Value} (hi : bs[i]? = some (g, 83, ec p0 k0)) (x y : Operand) (ho : o.op = .store 83 x y) (hx : a.eval x = .pointer (some ⟨g, 0, none⟩)) (hy : a.eval y = .agg (ec p (.slice A n c)).toArray)
    (h : ∀ W', Hid (BX w (bs.set i (g, 83, ec p (.slice A n c))) W') → K (a.put o.dst undef) W') : o.wp Tryd.prog a W K Q := st_g (cs := ec p0 k0) (vs := ec p (.slice A n c)) rtExpr ec_one' H hi rfl x y ho hx hy h
theorem ld_rc (i : Nat) (H : Hid (BX w bs W)) {z r1 : Int} {b1 b2 : Bool} (hi : bs[i]? = some (g, 79, rc z r1 b1 b2)) (x : Operand) (ho : o.op = .load 79 x) (hx : a.eval x = .pointer (some ⟨g, 0, none⟩)) (h : K (a.put o.dst (.agg (rc z r1 b1 b2).toArray)) W) : o.wp Tryd.prog a W K Q := ld_g rtRef H hi x ho hx h
theorem st_rc (i : Nat) (H : Hid (BX w bs W)) {z r1 : Int} {b1 b2 : Bool} {z0 r0 : Int} {b3 b4 : Bool} (hi : bs[i]? = some (g, 79, rc z0 r0 b3 b4)) (x y : Operand) (ho : o.op = .store 79 x y) (hx : a.eval x = .pointer (some ⟨g, 0, none⟩)) (hy : a.eval y = .agg (rc z r1 b1 b2).toArray)
    (h : ∀ W', Hid (BX w (bs.set i (g, 79, rc z r1 b1 b2)) W') → K (a.put o.dst undef) W') : o.wp Tryd.prog a W K Q := st_g (cs := rc z0 r0 b3 b4) (vs := rc z r1 b1 b2) rtRef rc_one H hi rfl x y ho hx hy h
theorem ld_vl (i : Nat) (H : Hid (BX w bs W)) {k1 m1 s1 e1 : Int} {t1 : ByteArray} {b1 : Bool} (hi : bs[i]? = some (g, 32, vl k1 m1 s1 t1 b1 e1)) (x : Operand) (ho : o.op = .load 32 x) (hx : a.eval x = .pointer (some ⟨g, 0, none⟩)) (h : K (a.put o.dst (.agg (vl k1 m1 s1 t1 b1 e1).toArray)) W) : o.wp Tryd.prog a W K Q := ld_g rtVal H hi x ho hx h
theorem bx_load {ty : TypeId} {cs : List Value} {i : Nat} (R : RowT ty cs.length) (H : Hid (BX w bs W)) (hi : bs[i]? = some (g, ty, cs)) : (loadVar ty ⟨g, 0, none⟩).run Tryd.prog W = .ok (.agg cs.toArray) W := by
  obtain ⟨d, hu, hd⟩ := R.und
  refine load_any W ⟨g, 0, none⟩ ty cs d (fun j u hj => ?_) hu hd R.size
  have e : (⟨g, 0, none⟩ : Addr).add j = ⟨g, j, none⟩ := by unfold Addr.add; split <;> simp_all
  rw [e, H.out.cell hi]
  exact hj
end
end Go.Proofs.YtkjiokepihmpfaaDoor
