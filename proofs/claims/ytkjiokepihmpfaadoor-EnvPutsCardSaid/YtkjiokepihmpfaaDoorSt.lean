/- Steps of the walk at formulas as a whole: their eighteen cells are read, stored, put into a row without being looked into. No condition. -/
import Derived.Test.YtkjiokepihmpfaaDoorTm
import Derived.Test.YtkjiokepihmpfaaDoorProg
import Derived.Deep.MidRow
set_option linter.unusedVariables false
set_option linter.unusedSimpArgs false
namespace Go.Proofs.YtkjiokepihmpfaaDoor
open Go.RowKit

theorem ec_len (p : Pay) (k : Value) : (ec p k).length = 18 := rfl
theorem ec_size (p : Pay) (k : Value) : (ec p k).toArray.size = 18 := rfl
theorem ec_get (p : Pay) (k : Value) : (ec p k)[17]? = some k := rfl
theorem ec_one (p : Pay) {A : Option Addr} {n c : Nat} : ∀ u ∈ ec p (.slice A n c), u.oneCell' = true := by
  intro u hu
  simp only [ec, pc, List.cons_append, List.nil_append, List.mem_cons, List.not_mem_nil, or_false] at hu
  rcases hu with rfl | rfl | rfl | rfl | rfl | rfl | rfl | rfl | rfl | rfl | rfl | rfl | rfl | rfl | rfl | rfl | rfl | rfl <;> rfl
theorem set_list {l m : List Value} {o : Nat} {v : Value} (h : o < l.length) : (l.set o v).take (o + 1) ++ m = l.take o ++ v :: m := by
  rw [List.take_set, List.take_succ_eq_append_getElem h, List.set_append_right _ _ (by rw [List.length_take]; omega)]
  simp [Nat.min_eq_left (Nat.le_of_lt h)]
theorem setCells_size {g : Nat} : ∀ (l : List Value) (o : Nat) (W : World), (W.setCells g o l).heap.size = W.heap.size
  | [], _, _ => rfl
  | v :: l, o, W => by
    rw [World.setCells, setCells_size l (o + 1)]
    simp [World.setCell]
theorem load_any {P : Program} (w : World) (q : Addr) (ty : TypeId) (cs : List Value) (d : TypeDesc) (hc : ∀ (j : Nat) (u : Value), cs[j]? = some u → w.cell? (q.add j) = some u)
    (hu : P.underlying ty = some d) (hd : d.isRow = true) (hi : (P.info? ty).map (·.size) = some cs.length) : (loadVar ty q).run P w = .ok (.agg cs.toArray) w := by
  have hl : (loadCells q cs.length).run P w = .ok cs.toArray w := run_loadCells_list (P := P) w q cs hc
  cases hq : P.info? ty with
  | none => simp [hq] at hi
  | some i =>
    have hs : i.size = cs.length := by simpa [hq] using hi
    have hagg : (isAgg ty).run P w = .ok true w := by
      unfold isAgg
      rw [Sem.run_bind, run_underlying hu w]
      cases d <;> simp_all
    simp [loadVar, Sem.run_bind, hagg, sizeOf, typeInfo, hq, hs, hl]

theorem setCells_bk {g : Nat} {t : TypeId} : ∀ (l : List Value) (o : Nat) (cs : List Value) (W : World), Bk W g t cs.toArray → o + l.length ≤ cs.length → Bk (W.setCells g o l) g t (cs.take o ++ l ++ cs.drop (o + l.length)).toArray
  | [], o, cs, W, h, _ => by simpa [World.setCells] using h
  | v :: l, o, cs, W, h, hl => by
    simp only [List.length_cons] at hl
    have h1 := h.set_ o v
    rw [List.setIfInBounds_toArray] at h1
    have h2 := setCells_bk l (o + 1) (cs.set o v) _ h1 (by rw [List.length_set]; omega)
    rw [World.setCells]
    have e : (cs.set o v).take (o + 1) ++ l ++ (cs.set o v).drop (o + 1 + l.length) = cs.take o ++ v :: l ++ cs.drop (o + (v :: l).length) := by
      rw [set_list (by omega), List.drop_set_of_lt (by omega), List.length_cons, show o + 1 + l.length = o + (l.length + 1) by omega]
    rw [e] at h2
    exact h2
theorem setCells_keep {g : Nat} : ∀ (l : List Value) (o : Nat) (W : World), Keep (fun i => i = g) W (W.setCells g o l)
  | [], _, W => Keep.refl _ _
  | v :: l, o, W => by
    rw [World.setCells]
    exact ((Keep.refl (fun i => i = g) W).setCell (p := ⟨g, o, none⟩) (fun _ => rfl) v).trans (setCells_keep l (o + 1) _) fun _ _ h => h

section
variable {o : Oper} {a : Act} {W : World} {K : Act → World → Prop} {Q : Exit → Act → World → Prop} {p : Pay} {k : Value} {g : Nat}
theorem ld_p (x : Operand) (ho : o.op = .load 83 x) (hx : a.eval x = .pointer (some ⟨g, 0, none⟩)) (hb : Bk W g 83 (ec p k).toArray) (h : K (a.put o.dst (.agg (ec p k).toArray)) W) : o.wp Tryd.prog a W K Q :=
  wp_load_row _ x ho g hx _ _ (0, 0) _ hb Tryd.underlying83 rfl (by rw [ec_size]; kernel_rfl) h
theorem ld_r (x : Operand) (ho : o.op = .load 92 x) (hx : a.eval x = .pointer (some ⟨g, 0, none⟩)) (hb : Bk W g 92 (ec p k).toArray) (h : K (a.put o.dst (.agg (ec p k).toArray)) W) : o.wp Tryd.prog a W K Q :=
  wp_load_row _ x ho g hx _ _ (0, 0) _ hb Tryd.underlying92 rfl (by rw [ec_size]; kernel_rfl) h
/-- Out of the midst of a row. -/
theorem ld_pm (x : Operand) {q : Addr} (ho : o.op = .load 83 x) (hx : a.eval x = .pointer (some q)) (hb : ∀ (j : Nat) (u : Value), (ec p k)[j]? = some u → W.cell? (q.add j) = some u) (h : K (a.put o.dst (.agg (ec p k).toArray)) W) : o.wp Tryd.prog a W K Q := by
  unfold Oper.wp execOp
  simp only [ho, hx, Instr.loadAt, Instr.sureAddr, Sem.run_bind, Sem.run_pure, Result.andThen_ok, load_any W q _ (ec p k) _ hb Tryd.underlying83 rfl (by rw [ec_len]; kernel_rfl)]
  exact h
theorem ld_rm (x : Operand) {q : Addr} (ho : o.op = .load 92 x) (hx : a.eval x = .pointer (some q)) (hb : ∀ (j : Nat) (u : Value), (ec p k)[j]? = some u → W.cell? (q.add j) = some u) (h : K (a.put o.dst (.agg (ec p k).toArray)) W) : o.wp Tryd.prog a W K Q := by
  unfold Oper.wp execOp
  simp only [ho, hx, Instr.loadAt, Instr.sureAddr, Sem.run_bind, Sem.run_pure, Result.andThen_ok, load_any W q _ (ec p k) _ hb Tryd.underlying92 rfl (by rw [ec_len]; kernel_rfl)]
  exact h
/-- Into a box. -/
theorem st_p (x y : Operand) {A : Option Addr} {n c : Nat} {cs : List Value} (ho : o.op = .store 83 x y) (hx : a.eval x = .pointer (some ⟨g, 0, none⟩)) (hy : a.eval y = .agg (ec p (.slice A n c)).toArray)
    (hb : Bk W g 83 cs.toArray) (hl : cs.length = 18) (h : ∀ W', Bk W' g 83 (ec p (.slice A n c)).toArray → Keep (fun i => i = g) W W' → W'.heap.size = W.heap.size → K (a.put o.dst undef) W') : o.wp Tryd.prog a W K Q := by
  refine wp_store_mid _ x y ho g 0 (ec p (.slice A n c)).toArray hx hy (fun j hj => ?_) (by rw [ec_size]; kernel_rfl) (all_oneCell_toArray (ec_one p)) ?_
  · rw [ec_size] at hj
    rw [Nat.zero_add, hb.cell, hb.frozen]
    exact ⟨by simp; omega, rfl⟩
  · have h2 := setCells_bk (ec p (.slice A n c)) 0 cs W hb (by rw [ec_len]; omega)
    have h3 := setCells_keep (g := g) (ec p (.slice A n c)) 0 W
    refine h _ ?_ h3 ?_
    · simpa [ec_len, hl, List.drop_eq_nil_of_le] using h2
    · exact setCells_size _ _ _
/-- A part of a box. -/
theorem st_sub {ty T : TypeId} {off : Nat} (x y : Operand) {cs vs : List Value} (ho : o.op = .store ty x y) (hx : a.eval x = .pointer (some ⟨g, off, none⟩)) (hy : a.eval y = .agg vs.toArray) (hi : (Tryd.prog.info? ty).map (·.size) = some vs.length)
    (h1 : ∀ v ∈ vs, v.oneCell' = true) (hb : Bk W g T cs.toArray) (hl : off + vs.length ≤ cs.length) (h : ∀ W', Bk W' g T (cs.take off ++ vs ++ cs.drop (off + vs.length)).toArray → Keep (fun i => i = g) W W' → W'.heap.size = W.heap.size → K (a.put o.dst undef) W') : o.wp Tryd.prog a W K Q := by
  refine wp_store_mid _ x y ho g off vs.toArray hx hy (fun j hj => ?_) (by rw [List.size_toArray]; exact hi) (all_oneCell_toArray h1) (h _ (setCells_bk vs off cs W hb hl) (setCells_keep _ _ _) (setCells_size _ _ _))
  rw [List.size_toArray] at hj
  rw [hb.cell, hb.frozen]
  exact ⟨by simp; omega, rfl⟩
theorem stop_w {ty : TypeId} (x y : Operand) (ho : o.op = .store ty x y) (h : Hid (o.wp Tryd.prog a W K Q)) : o.wp Tryd.prog a W K Q := h.out
/-- The walk stands still ahead of a load of a formula. -/
theorem stop_p (x : Operand) (ho : o.op = .load 83 x) (h : Hid (o.wp Tryd.prog a W K Q)) : o.wp Tryd.prog a W K Q := h.out
theorem stop_i (x : Operand) (ho : o.op = .load 3 x) (h : Hid (o.wp Tryd.prog a W K Q)) : o.wp Tryd.prog a W K Q := h.out
theorem stop_r (x : Operand) (ho : o.op = .load 92 x) (h : Hid (o.wp Tryd.prog a W K Q)) : o.wp Tryd.prog a W K Q := h.out
theorem stop_s (x y : Operand) (ho : o.op = .store 83 x y) (h : Hid (o.wp Tryd.prog a W K Q)) : o.wp Tryd.prog a W K Q := h.out
theorem stop_app (s x : Operand) {ty : TypeId} (ho : o.op = .call { callee := .builtin .append, args := #[s, x], argTypes := #[ty, ty] }) (h : Hid (o.wp Tryd.prog a W K Q)) : o.wp Tryd.prog a W K Q := h.out
theorem stop_b {ps : Array (Nat × Operand)} (ho : o.op = .build 83 ps) (h : Hid (o.wp Tryd.prog a W K Q)) : o.wp Tryd.prog a W K Q := h.out
theorem stop_bs {n : Nat} {ps : Array (Nat × Operand)} (ho : o.op = .buildSlice 26 n ps) (h : Hid (o.wp Tryd.prog a W K Q)) : o.wp Tryd.prog a W K Q := h.out
theorem wp_b {v : Value} (hr : (execOp a.eval o).run Tryd.prog W = .ok (.value v) W) (h : K (a.put o.dst v) W) : o.wp Tryd.prog a W K Q := by
  unfold Oper.wp
  rw [hr]
  exact h
theorem wp_v {v : Value} {W' : World} (hr : (execOp a.eval o).run Tryd.prog W = .ok (.value v) W') (h : K (a.put o.dst v) W') : o.wp Tryd.prog a W K Q := by
  unfold Oper.wp
  rw [hr]
  exact h
/-- A row built of one. -/
theorem bs_1 (x : Operand) (ho : o.op = .buildSlice 26 1 #[(0, x)]) (hx : a.eval x = .agg (ec p k).toArray) (h : K (a.put o.dst (.slice (some ⟨W.heap.size, 0, none⟩) 1 1)) (W.alloc (.cells (ec p k).toArray 83))) : o.wp Tryd.prog a W K Q := by
  unfold Oper.wp execOp
  rw [ho]
  simp only [List.map_toArray, List.map_cons, List.map_nil, hx]
  clear ho hx
  simp only [ec, pc, List.cons_append, List.nil_append] at h ⊢
  go_simp
  exact h
/-- At the head of a region's list, guarded or not. -/
theorem at_head {ops : Array Oper} {rest : List Oper} (hw : Region.wanted o (yielded ops a.tmps) = true) (h : ∀ K : Act → World → Prop, (∀ a w, wpList Tryd.prog ops Q rest a w → K a w) → o.wp Tryd.prog a W K Q) : wpList Tryd.prog ops Q (o :: rest) a W :=
  wpList_step fun K hK => by rw [if_pos hw]; exact h K hK
theorem gld_p {ops : Array Oper} {rest : List Oper} (hw : Region.wanted o (yielded ops a.tmps) = true) (x : Operand) (ho : o.op = .load 83 x) (hx : a.eval x = .pointer (some ⟨g, 0, none⟩)) (hb : Bk W g 83 (ec p k).toArray) (h : wpList Tryd.prog ops Q rest (a.put o.dst (.agg (ec p k).toArray)) W) : wpList Tryd.prog ops Q (o :: rest) a W :=
  at_head hw fun K hK => ld_p x ho hx hb (hK _ _ h)
theorem gstop_b {ops : Array Oper} {rest : List Oper} {ps : Array (Nat × Operand)} (hw : Region.wanted o (yielded ops a.tmps) = true) (ho : o.op = .build 83 ps) (h : Hid (wpList Tryd.prog ops Q (o :: rest) a W)) : wpList Tryd.prog ops Q (o :: rest) a W := h.out
theorem gwp_b {ops : Array Oper} {rest : List Oper} {v : Value} (hw : Region.wanted o (yielded ops a.tmps) = true) (hr : (execOp a.eval o).run Tryd.prog W = .ok (.value v) W) (h : wpList Tryd.prog ops Q rest (a.put o.dst v) W) : wpList Tryd.prog ops Q (o :: rest) a W :=
  at_head hw fun K hK => wp_b hr (hK _ _ h)
end
end Go.Proofs.YtkjiokepihmpfaaDoor
