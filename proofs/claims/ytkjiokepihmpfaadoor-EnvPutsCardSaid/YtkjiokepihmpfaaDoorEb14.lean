/- Steps over boxes of places, values, slots, Envs; a row of slots read; an append of noughts. No condition. -/
import Derived.Test.YtkjiokepihmpfaaDoorPl14
import Derived.Test.YtkjiokepihmpfaaDoorPart
set_option linter.unusedVariables false
set_option linter.unusedSimpArgs false
namespace Go.Proofs.YtkjiokepihmpfaaDoor
open Go.RowKit

section
variable {o : Oper} {a : Act} {w W : World} {K : Act → World → Prop} {Q : Exit → Act → World → Prop} {bs : Bxs}
theorem bs_g {e : TypeId} {n : Nat} (H : Hid (BX w bs W)) (cs : List Value) (hr : (execOp a.eval o).run Tryd.prog W = .ok (.value (.slice (some ⟨W.heap.size, 0, none⟩) n n)) (W.alloc (.cells cs.toArray e))) (h : ∀ g W', Hid (BX w ((g, e, cs) :: bs) W') → K (a.put o.dst (.slice (some ⟨g, 0, none⟩) n n)) W') : o.wp Tryd.prog a W K Q := by
  unfold Oper.wp
  rw [hr]
  exact h _ _ (Lib.hid (H.out.made e cs))
theorem stop_bsu {n : Nat} {ps : Array (Nat × Operand)} {t : TypeId} (ho : o.op = .buildSlice t n ps) (h : Hid (o.wp Tryd.prog a W K Q)) : o.wp Tryd.prog a W K Q := h.out
theorem stop_ap {s x : Operand} {t : TypeId} (ho : o.op = .call { callee := .builtin .append, args := #[s, x], argTypes := #[t, t] }) (h : Hid (o.wp Tryd.prog a W K Q)) : o.wp Tryd.prog a W K Q := h.out
theorem bx_pl (H : Hid (BX w bs W)) (x : Operand) {p : Pl} (ho : o.op = .box 40 x) (hx : a.eval x = .agg (plc p).toArray) (h : ∀ g W', Hid (BX w ((g, 40, plc p) :: bs) W') → K (a.put o.dst (.pointer (some ⟨g, 0, none⟩))) W') : o.wp Tryd.prog a W K Q := by
  have hm := H.out.made 40 (plc p)
  unfold Oper.wp execOp
  rw [ho]
  simp only [hx]
  clear ho hx
  simp only [plc] at hm h ⊢
  go_simp
  exact h _ _ (Lib.hid hm)
theorem bx_va (H : Hid (BX w bs W)) (x : Operand) {p : Va} (ho : o.op = .box 32 x) (hx : a.eval x = .agg (vac p).toArray) (h : ∀ g W', Hid (BX w ((g, 32, vac p) :: bs) W') → K (a.put o.dst (.pointer (some ⟨g, 0, none⟩))) W') : o.wp Tryd.prog a W K Q := by
  have hm := H.out.made 32 (vac p)
  unfold Oper.wp execOp
  rw [ho]
  simp only [hx]
  clear ho hx
  simp only [vac] at hm h ⊢
  go_simp
  exact h _ _ (Lib.hid hm)
theorem bx_sl (H : Hid (BX w bs W)) (x : Operand) {p : Sl} (ho : o.op = .box 44 x) (hx : a.eval x = .agg (slc p).toArray) (h : ∀ g W', Hid (BX w ((g, 44, slc p) :: bs) W') → K (a.put o.dst (.pointer (some ⟨g, 0, none⟩))) W') : o.wp Tryd.prog a W K Q := by
  have hm := H.out.made 44 (slc p)
  unfold Oper.wp execOp
  rw [ho]
  simp only [hx]
  clear ho hx
  simp only [slc, plc, vac, List.cons_append, List.nil_append] at hm h ⊢
  go_simp
  exact h _ _ (Lib.hid hm)
theorem bx_en (H : Hid (BX w bs W)) (x : Operand) {n : Int} {A B : Option Addr} {b c d e : Nat} (ho : o.op = .box 28 x) (hx : a.eval x = .agg (enc n (.slice A b c) (.slice B d e)).toArray) (h : ∀ g W', Hid (BX w ((g, 28, enc n (.slice A b c) (.slice B d e)) :: bs) W') → K (a.put o.dst (.pointer (some ⟨g, 0, none⟩))) W') : o.wp Tryd.prog a W K Q := by
  have hm := H.out.made 28 (enc n (.slice A b c) (.slice B d e))
  unfold Oper.wp execOp
  rw [ho]
  simp only [hx]
  clear ho hx
  simp only [enc] at hm h ⊢
  go_simp
  exact h _ _ (Lib.hid hm)
end
section
variable {o : Oper} {a : Act} {w W : World} {K : Act → World → Prop} {Q : Exit → Act → World → Prop} {bs : Bxs} {g k : Nat} {T : TypeId} {cs : List Value} {u : Value}
theorem lf_ss (i : Nat) (H : Hid (BX w bs W)) (hi : bs[i]? = some (g, T, cs)) (x : Operand) (ho : o.op = .load 25 x) (hx : a.eval x = .pointer (some ⟨g, k, none⟩)) (hc : cs[k]? = some u) (h : K (a.put o.dst u) W) : o.wp Tryd.prog a W K Q := by
  have c := H.out.cell hi k
  rw [hc] at c
  unfold Oper.wp execOp
  rw [ho]
  simp only [hx]
  clear ho hx hc hi H
  go_simp
  exact h
theorem run_ldi {z : Int} (hb : Bk W g T cs.toArray) (hc : cs[k]? = some (.int .i64 z)) (x : Operand) (ho : o.op = .load 3 x) (hx : a.eval x = .pointer (some ⟨g, k, none⟩)) : (execOp a.eval o).run Tryd.prog W = .ok (.value (.int .i64 z)) W := by
  have c := hb.cell k
  rw [show cs.toArray[k]? = some (.int .i64 z) by simpa using hc] at c
  unfold execOp
  rw [ho]
  simp only [hx]
  clear ho hx hc hb
  go_simp
theorem run_lds {u : Value} (hb : Bk W g T cs.toArray) (hc : cs[k]? = some u) (x : Operand) (ho : o.op = .load 25 x) (hx : a.eval x = .pointer (some ⟨g, k, none⟩)) : (execOp a.eval o).run Tryd.prog W = .ok (.value u) W := by
  have c := hb.cell k
  rw [show cs.toArray[k]? = some u by simpa using hc] at c
  unfold execOp
  rw [ho]
  simp only [hx]
  clear ho hx hc hb
  go_simp
theorem run_lde {u : Value} (hb : Bk W g T cs.toArray) (hc : cs[k]? = some u) (x : Operand) (ho : o.op = .load 26 x) (hx : a.eval x = .pointer (some ⟨g, k, none⟩)) : (execOp a.eval o).run Tryd.prog W = .ok (.value u) W := by
  have c := hb.cell k
  rw [show cs.toArray[k]? = some u by simpa using hc] at c
  unfold execOp
  rw [ho]
  simp only [hx]
  clear ho hx hc hb
  go_simp
/-- A struct that is a part of a box, of a row. -/
theorem add_lit (g m j : Nat) : (⟨g, m, none⟩ : Addr).add j = ⟨g, m + j, none⟩ := by unfold Addr.add; split <;> simp_all
theorem lp_g {ty : TypeId} {vs : List Value} (R : RowT ty vs.length) (H : Hid (BX w bs W)) {i : Nat} (hi : bs[i]? = some (g, T, cs)) (x : Operand) (ho : o.op = .load ty x) (hx : a.eval x = .pointer (some ⟨g, k, none⟩)) (hp : ∀ (j : Nat) (u : Value), vs[j]? = some u → cs[k + j]? = some u) (h : K (a.put o.dst (.agg vs.toArray)) W) : o.wp Tryd.prog a W K Q :=
  ldm_g R x ho hx (fun j u hu => by rw [add_lit, H.out.cell hi]; exact hp j u hu) h
theorem sl_p (x : Sl) : ∀ (j : Nat) (u : Value), (plc x.p)[j]? = some u → (slc x)[0 + j]? = some u := fun j u h => by
  rw [Nat.zero_add]
  exact (List.getElem?_append_left (List.getElem?_eq_some_iff.1 h).1).trans h
theorem sl_v (x : Sl) : ∀ (j : Nat) (u : Value), (vac x.v)[j]? = some u → (slc x)[3 + j]? = some u := fun j u h => by
  unfold slc
  rw [List.getElem?_append_right (by simp [plc])]
  simpa [plc] using h
def ccc (p : Pl) : List Value := [.int .i64 p.r, .int .i64 p.c]
theorem pl_c (p : Pl) : ∀ (j : Nat) (u : Value), (ccc p)[j]? = some u → (plc p)[1 + j]? = some u := fun j u h => by
  match j, h with
  | 0, h => exact h
  | 1, h => exact h
theorem lp_sp (i : Nat) (H : Hid (BX w bs W)) {p : Sl} (hi : bs[i]? = some (g, 44, slc p)) (x : Operand) (ho : o.op = .load 40 x) (hx : a.eval x = .pointer (some ⟨g, 0, none⟩)) (h : K (a.put o.dst (.agg (plc p.p).toArray)) W) : o.wp Tryd.prog a W K Q := lp_g rtPl H hi x ho hx (sl_p p) h
theorem lp_sv (i : Nat) (H : Hid (BX w bs W)) {p : Sl} (hi : bs[i]? = some (g, 44, slc p)) (x : Operand) (ho : o.op = .load 32 x) (hx : a.eval x = .pointer (some ⟨g, 3, none⟩)) (h : K (a.put o.dst (.agg (vac p.v).toArray)) W) : o.wp Tryd.prog a W K Q := lp_g rtVa H hi x ho hx (sl_v p) h
theorem lp_pc (i : Nat) (H : Hid (BX w bs W)) {p : Pl} (hi : bs[i]? = some (g, 40, plc p)) (x : Operand) (ho : o.op = .load 38 x) (hx : a.eval x = .pointer (some ⟨g, 1, none⟩)) (h : K (a.put o.dst (.agg (ccc p).toArray)) W) : o.wp Tryd.prog a W K Q := lp_g rtCell H hi x ho hx (pl_c p) h
end
section
variable {o : Oper} {a : Act} {w W : World} {K : Act → World → Prop} {Q : Exit → Act → World → Prop} {bs : Bxs} {g : Nat}
theorem ld_pl (i : Nat) (H : Hid (BX w bs W)) {p : Pl} (hi : bs[i]? = some (g, 40, plc p)) (x : Operand) (ho : o.op = .load 40 x) (hx : a.eval x = .pointer (some ⟨g, 0, none⟩)) (h : K (a.put o.dst (.agg (plc p).toArray)) W) : o.wp Tryd.prog a W K Q := ld_g (cs := plc p) rtPl H hi x ho hx h
theorem st_pl (i : Nat) (H : Hid (BX w bs W)) {p p2 : Pl} (hi : bs[i]? = some (g, 40, plc p)) (x y : Operand) (ho : o.op = .store 40 x y) (hx : a.eval x = .pointer (some ⟨g, 0, none⟩)) (hy : a.eval y = .agg (plc p2).toArray) (h : ∀ W', Hid (BX w (bs.set i (g, 40, plc p2)) W') → K (a.put o.dst undef) W') : o.wp Tryd.prog a W K Q := st_g (cs := plc p) (vs := plc p2) rtPl (plc_one _) H hi rfl x y ho hx hy h
theorem ld_va (i : Nat) (H : Hid (BX w bs W)) {p : Va} (hi : bs[i]? = some (g, 32, vac p)) (x : Operand) (ho : o.op = .load 32 x) (hx : a.eval x = .pointer (some ⟨g, 0, none⟩)) (h : K (a.put o.dst (.agg (vac p).toArray)) W) : o.wp Tryd.prog a W K Q := ld_g (cs := vac p) rtVa H hi x ho hx h
theorem st_va (i : Nat) (H : Hid (BX w bs W)) {p p2 : Va} (hi : bs[i]? = some (g, 32, vac p)) (x y : Operand) (ho : o.op = .store 32 x y) (hx : a.eval x = .pointer (some ⟨g, 0, none⟩)) (hy : a.eval y = .agg (vac p2).toArray) (h : ∀ W', Hid (BX w (bs.set i (g, 32, vac p2)) W') → K (a.put o.dst undef) W') : o.wp Tryd.prog a W K Q := st_g (cs := vac p) (vs := vac p2) rtVa (vac_one _) H hi rfl x y ho hx hy h
theorem ld_sl (i : Nat) (H : Hid (BX w bs W)) {p : Sl} (hi : bs[i]? = some (g, 44, slc p)) (x : Operand) (ho : o.op = .load 44 x) (hx : a.eval x = .pointer (some ⟨g, 0, none⟩)) (h : K (a.put o.dst (.agg (slc p).toArray)) W) : o.wp Tryd.prog a W K Q := ld_g (cs := slc p) rtSl H hi x ho hx h
theorem st_sl (i : Nat) (H : Hid (BX w bs W)) {p p2 : Sl} (hi : bs[i]? = some (g, 44, slc p)) (x y : Operand) (ho : o.op = .store 44 x y) (hx : a.eval x = .pointer (some ⟨g, 0, none⟩)) (hy : a.eval y = .agg (slc p2).toArray) (h : ∀ W', Hid (BX w (bs.set i (g, 44, slc p2)) W') → K (a.put o.dst undef) W') : o.wp Tryd.prog a W K Q := st_g (cs := slc p) (vs := slc p2) rtSl (slc_one _) H hi rfl x y ho hx hy h
theorem ld_en (i : Nat) (H : Hid (BX w bs W)) {n : Int} {A B : Option Addr} {b c d e : Nat} (hi : bs[i]? = some (g, 28, enc n (.slice A b c) (.slice B d e))) (x : Operand) (ho : o.op = .load 28 x) (hx : a.eval x = .pointer (some ⟨g, 0, none⟩)) (h : K (a.put o.dst (.agg (enc n (.slice A b c) (.slice B d e)).toArray)) W) : o.wp Tryd.prog a W K Q := ld_g (cs := enc n (.slice A b c) (.slice B d e)) rtEnv H hi x ho hx h
theorem st_en (i : Nat) (H : Hid (BX w bs W)) {n n2 : Int} {A B A2 B2 : Option Addr} {b c d e b2 c2 d2 e2 : Nat} (hi : bs[i]? = some (g, 28, enc n (.slice A b c) (.slice B d e))) (x y : Operand) (ho : o.op = .store 28 x y) (hx : a.eval x = .pointer (some ⟨g, 0, none⟩)) (hy : a.eval y = .agg (enc n2 (.slice A2 b2 c2) (.slice B2 d2 e2)).toArray) (h : ∀ W', Hid (BX w (bs.set i (g, 28, enc n2 (.slice A2 b2 c2) (.slice B2 d2 e2))) W') → K (a.put o.dst undef) W') : o.wp Tryd.prog a W K Q := st_g (cs := enc n (.slice A b c) (.slice B d e)) (vs := enc n2 (.slice A2 b2 c2) (.slice B2 d2 e2)) rtEnv enc_one H hi rfl x y ho hx hy h
end
/-- Of a row of slots: one slot's cells. -/
theorem row_at {W : World} {B n i : Nat} {A : Option Addr} {L : List Sl} {x : Sl} (h : Rd W B 9 A n (rwc L)) (hi : L[i]? = some x) : ∃ a, A = some a ∧ a.block < B ∧ ∀ (j : Nat) (u : Value), (slc x)[j]? = some u → W.cell? ((a.add (i * 9)).add j) = some u := by
  have hl : i < L.length := (List.getElem?_eq_some_iff.1 hi).1
  have hn : 0 < n := by
    have := h.len
    rw [rwc_len] at this
    omega
  obtain ⟨a, rfl, hb, hc⟩ := h.at_ hn
  exact ⟨a, rfl, hb, fun j u hu => by rw [add_add]; exact hc _ _ (rwc_get hi hu)⟩
theorem slotRow : ElemRow Tryd.prog 25 44 (.agg (slc ⟨⟨0, 0, 0⟩, blV⟩).toArray) 9 80 := by
  obtain ⟨i, hi, h0, h1, h2⟩ := info_parts (P := Tryd.prog) (e := 44) (z := .agg (slc ⟨⟨0, 0, 0⟩, blV⟩).toArray) (size := 9) (bytes := 80) (by kernel_rfl)
  exact ⟨Tryd.underlying25, ⟨i, hi, h0, h1, h2⟩, rfl, by omega⟩
set_option maxRecDepth 20000 in
/-- append(nil, make([]T, n)...). -/
theorem run_noughts {P : Program} {w : World} {t e size bytes n : Nat} {z : Value} (E : ElemRow P t e z size bytes) (ti : TypeId) (ty : TypeId) (hti : ∃ k, P.underlying ti = some (.int k)) (hn : 0 < n) (h63 : n ≤ 1000000) (hb : n * bytes ≤ 140737488355328) {base : Nat} (hbase : base ≤ w.heap.size) :
    ∃ (c : Nat) (w' : World), n ≤ c ∧ (Builtin.append_ #[t, ti] ty #[.slice none 0 0, .int .i64 n]).run P w = .ok (.slice (some ⟨w.heap.size, 0, none⟩) n c) w' ∧ w'.ownsRow base e size (.slice (some ⟨w.heap.size, 0, none⟩) 0 c) 0 [] ∧ Below w.heap.size w w' := by
  obtain ⟨i, hi, hz, hs, hby⟩ := E.info
  obtain ⟨k, hk⟩ := hti
  obtain ⟨M, hM⟩ : ∃ M, n * bytes = M := ⟨_, rfl⟩
  have hpos := E.pos
  have h0 : (n = 0) = False := by simp; omega
  have hw : IntKind.i64.wrap (n : Int) = n := IntWalk.i64_in _ (by omega)
  have h1 : ¬ ((n : Int) < 0) := by omega
  have h2 : (281474976710656 < (n : Int) * (i.bytes : Int)) = False := by
    rw [hby, ← Int.natCast_mul, hM]
    simp
    omega
  have h3 : (9223372036854775807 < (n : Int)) = False := by simp; omega
  have h4 : (281474976710656 < Builtin.nextslicecap n 0 * i.bytes) = False := by
    have : Builtin.nextslicecap n 0 = n := by unfold Builtin.nextslicecap; rw [if_pos (by omega)]
    rw [this, hby, hM]
    simp
    omega
  have h5 : (i.size = 0) = False := by simp; omega
  have h6 : max (n : Int) 0 = n := by omega
  have h7 : (i.bytes : Int) = (bytes : Int) := by rw [hby]
  have h8 : ¬ ((n : Int) ≤ 0) := by omega
  clear hM hb
  refine ⟨grownCap w n 0 e, w.drew.alloc (.cells (Builtin.zeroCells z.cells n ++ Builtin.zeroCells z.cells (grownCap w n 0 e - n)) e), grownCap_ge _ _ _ _, ?_, ?_, ?_⟩
  · simp [Builtin.append_, run_underlying E.under, run_underlying hk, sizeOf, typeInfo, zeroValue, hi, hz, hw, h1, h2, h3, h4, h5, h0, Question.forced, newRow, grownCap, Builtin.firstCells, asInt, asIntOf, h6, h8]
    intro h
    exfalso
    have := Nat.mul_pos hn (show 0 < i.size by rw [hs]; exact hpos)
    omega
  · refine World.ownsRow_made w.drew _ _ hbase (grownCap_le_maxLen _ _ _ _ (by unfold maxLen; omega)) ?_
    have hg := grownCap_ge w n 0 e
    rw [Array.size_append, size_zeroCells, size_zeroCells, E.zero, ← Nat.add_mul]
    congr 1
    omega
  · exact (Below.refl w.heap.size w).drew.alloc (Nat.le_refl _) _
end Go.Proofs.YtkjiokepihmpfaaDoor
