/- expr's stack: enter, by its contract. Condition: the stack reads as rows of formulas, the formula's Kids too. -/
/- A scope with gotos: what holds at each label, told with a number that each pass lowers. No condition. -/
/- Formulas as a whole in regions that draw their order. No condition. -/
/- expr's stack: next, by its contract, wherever its formulas lie. Condition: the stack reads as rows of formulas, which lie in no block of its own. -/
import Derived.Test.YtlaiocdnddnnaaaGreatDoorApp
import Derived.Test.YtlaiocdnddnnaaaGreatDoorNx
import Derived.WalkMore
import Derived.Test.YtlaiocdnddnnaaaGreatDoorLast
set_option linter.unusedVariables false
set_option linter.unusedSimpArgs false
namespace Go.Proofs.YtlaiocdnddnnaaaGreatDoor
open Go.RowKit Go.Lib
set_option maxRecDepth 20000 in
set_option maxHeartbeats 1000000 in
theorem enter_any {w : World} {B base g : Nat} {v : Value} {K : List (List Tr)} (h : Stk w B base g v K) (hB : B ≤ base) (hg : B ≤ g) (hbw : base ≤ w.heap.size) {p : Pay} {ks : List Tr} {A : Option Addr} {c : Nat} (hc : ks.length ≤ c) (hr : RowF treeF w (· < B) A ks.length ks) (hlen : K.length ≤ 1000000) :
    Calls Tryz.prog 40 #[.pointer (some ⟨g, 0, none⟩), .agg (ec p (.slice A ks.length c)).toArray] w fun e W => e = .returned (.tuple #[]) ∧ Keep (StT g v) w W ∧ ∃ v', Lies w v v' ∧ Stk W B base g v' (K ++ [ks]) := by
  obtain ⟨xs, ho, hh⟩ := h.row; have hne := h.ne; have hgl0 := h.len; have hbx := h.box; clear h; generalize hn : K.length = n at *; obtain ⟨w1, hw1⟩ : ∃ w1, w1 = w.alloc (.cells (ec p (.slice A ks.length c)).toArray 47) := ⟨_, rfl⟩
  obtain ⟨b, hb⟩ : ∃ b, b = w.heap.size := ⟨_, rfl⟩
  have hbel : Below b w w1 := by rw [hw1, hb]; exact bel0 _ _
  have hkb : Bk w1 b 47 (ec p (.slice A ks.length c)).toArray := by rw [hw1, hb]; exact Bk.new _ _ _
  have hbox0 : Bk w1 g 96 #[v] := hbx.below hbel (by omega); have hrow0 : w1.ownsRow base 45 1 v n xs := (Keep.of_below (S := fun i => b ≤ i) hbel fun i _ h => h).own ho fun i hi hh => by have := (ho.lt i hi).2; omega
  have hvl0 := own_blk ho; have hvb := own_base ho; have hxl : xs.length = n := by rw [ho.1]; omega
  have hbn : ¬ ApT g v b := by
    rintro (e | e)
    · omega
    · have := hvl0 _ e; omega
  go_enter Tryz.func40, Tryz.ntmps40
  repeat' (first | go_values | go_skip | go_guarded | go_step | go_upon)
  rw [← hb, ← hw1]; have HB := Lib.hid (And.intro hb hbel); clear hw1 hbel ho hbx; have hB1 : base ≤ w1.heap.size := by have := HB.out.2.size; omega
  clear hb; have hgl : g < w1.heap.size := hbox0.lt; have hvl := own_blk hrow0
  refine wp_region_phases (S := (ApS w1 base g 96 45 (fun ur => #[ur]) n 1 xs (xs ++ [.slice A ks.length c]) v)) (E := (fun W W' => Keep (ApT g v) W W')) [3, 7, 9] [(0, Is (.pointer (some ⟨g, 0, none⟩))), (1, Is (.agg (ec p (.slice A ks.length c)).toArray)), (3, Is (.pointer (some ⟨b, 0, none⟩)))] [(4, Is (.pointer (some ⟨g, 0, none⟩))), (5, Is (.pointer (some ⟨g, 0, none⟩))), (6, Is (.pointer (some ⟨g, 0, none⟩))), (8, Is (.pointer (some ⟨b, 17, none⟩))), (9, Is (.slice A ks.length c)), (10, ApX w1.heap.size 45 (.slice A ks.length c)), (12, Is (.pointer (some ⟨g, 0, none⟩)))]
    [.op [0] none, .op [0] none, .op [5] none, .phase 0 [6] [], .op [3] none, .op [8] none, .op [9] none, .phase 1 [10] [(0, 7)], .op [4] none, .phase 2 [12] [(1, 11)]] (by as_aux_lemma => kernel_rfl) ?_ ?_ ?_ ?_ ?_ ⟨stable_is _ _, stable_is _ _, stable_is _ _, stable_is _ _, stable_is _ _, stable_is _ _, stable_is _ _, stable_is _ _, apx_stable hgl hvl, stable_is _ _, trivial⟩ ?_ (ApS.start hbox0 hrow0) ?_ ?_
  · as_aux_lemma => kernel_rfl
  · as_aux_lemma => kernel_rfl
  · as_aux_lemma => kernel_rfl
  · as_aux_lemma => kernel_rfl
  · as_aux_lemma => kernel_rfl
  · exact ⟨rfl, rfl, rfl, trivial⟩
  · refine ⟨?_, ?_, ?_, ?_, ?_, ?_, ?_, ?_, ?_, ?_, trivial⟩
    · as_aux_lemma => intro vals a W hS hL; have e0 : a.tmps.getD 0 undef = .pointer (some ⟨g, 0, none⟩) := hL.1; clear hL; go_simp; exact ⟨dstY (by rfl), hS, Keep.refl _ _⟩
    · as_aux_lemma => intro vals a W hS hL; have e0 : a.tmps.getD 0 undef = .pointer (some ⟨g, 0, none⟩) := hL.1; clear hL; go_simp; exact ⟨dstY (by rfl), hS, Keep.refl _ _⟩
    · as_aux_lemma => intro vals a W hS hL; have e5 : a.tmps.getD 5 undef = .pointer (some ⟨g, 0, none⟩) := hL.1; clear hL; go_simp; exact ⟨dstY (by rfl), hS, Keep.refl _ _⟩
    · as_aux_lemma =>
        intro a W vals hv hS hL hp; have e6 : a.tmps.getD 6 undef = .pointer (some ⟨g, 0, none⟩) := hL.1; clear hL
        match vals, hv, hS with
        | [], _, hS =>
          have fb : W.cell? ⟨g, 0, none⟩ = some v := hS.2.1.cell 0; go_simp; exact ⟨⟨rfl, hS⟩, trivial, Keep.refl _ _⟩
    · as_aux_lemma => intro vals a W hS hL; have e3 : a.tmps.getD 3 undef = .pointer (some ⟨b, 0, none⟩) := hL.1; clear hL; go_simp; exact ⟨dstY (by rfl), hS, Keep.refl _ _⟩
    · as_aux_lemma => intro vals a W hS hL; have e8 : a.tmps.getD 8 undef = .pointer (some ⟨b, 17, none⟩) := hL.1; clear hL; have hkb2 := (ApS.keep hS).bk hkb hbn; have fb : W.cell? ⟨b, 17, none⟩ = some (.slice A ks.length c) := hkb2.cell 17; clear hkb2; go_simp; exact ⟨dstY (by rfl), hS, Keep.refl _ _⟩
    · as_aux_lemma => intro vals a W hS hL; have e9 : a.tmps.getD 9 undef = .slice A ks.length c := hL.1; clear hL; have hsz := (ApS.keep hS).size; rw [Array.getD_eq_getD_getElem?] at e9; go_simp; exact ⟨⟨fun d hd => by injection hd with hd; subst hd; exact ⟨_, rfl, hsz, Bk.new _ _ _⟩, fun h => by cases h⟩, ApS.alloc hS _, Keep.alloc (Keep.refl _ _) _⟩
    · as_aux_lemma =>
        intro a W vals hv hS hL hp; have e10 := hL.1; clear hL; obtain ⟨gx, e10, hgx, hkx⟩ := e10
        match vals, hv, hS, hp with
        | [u], _, hS, hp =>
          obtain ⟨rfl, hK, hbx, hrow⟩ := hS; have e7 := (Option.some.inj (hp.1 (by simp))).symm; have hsz := hK.size; refine lands_app hdrRow (.tmp 7) (.tmp 10) rfl e7 e10 hrow (bk_rd (k := 1) (n := 1) hkx rfl) (by intro u hu; simp at hu; subst hu; rfl) (by unfold maxLen; omega) (by omega) (Nat.le_trans hB1 hsz) fun v2_ w2_ o2_ g2_ => ?_; have hA := ApS.appended (W0 := w1) (g := g) (T := 96) (C := (fun ur => #[ur])) (xs := xs) ⟨rfl, hK, hbx, hrow⟩ g2_ o2_ (by decide); exact ⟨hA.1, trivial, hA.2⟩
    · as_aux_lemma => intro vals a W hS hL; have e4 : a.tmps.getD 4 undef = .pointer (some ⟨g, 0, none⟩) := hL.1; clear hL; go_simp; exact ⟨dstY (by rfl), hS, Keep.refl _ _⟩
    · as_aux_lemma =>
        intro a W vals hv hS hL hp; have e12 : a.tmps.getD 12 undef = .pointer (some ⟨g, 0, none⟩) := hL.1; clear hL
        match vals, hv, hS, hp with
        | [u, v1], _, hS, hp =>
          have e11 := (Option.some.inj (hp.1 (by simp))).symm; obtain ⟨A2, c2, e2, _⟩ := own_form hS.2.2.1; subst e2; have kz := hS.2.1; have fb : W.cell? ⟨g, 0, none⟩ = some v := kz.cell 0; have zb := kz.frozen 0; have hF := ApS.stored (x := undef) (k := 0) hS rfl (by decide); rw [Array.getD_eq_getD_getElem?] at e11; clear hS kz; go_simp; exact ⟨hF.1, trivial, hF.2⟩
  · intro a W' vals hd hsz hT hF hv hP hS
    obtain ⟨x0, v1, x2, rfl⟩ : ∃ x0 x1 x2, vals = [x0, x1, x2] := by
      match vals, hv with
      | [x, y, z], _ => exact ⟨x, y, z, rfl⟩
    obtain ⟨hK, hbF, hoF, hlF⟩ := ApS.done hS; have e0 : a.tmps.getD 0 undef = .pointer (some ⟨g, 0, none⟩) := hT 0 (by simp); have e1 : a.tmps.getD 1 undef = .agg (ec p (.slice A ks.length c)).toArray := hT 1 (by simp); have e3 : a.tmps.getD 3 undef = .pointer (some ⟨b, 0, none⟩) := hT 3 (by simp); clear hT hF hP hS; rw [act_lit 13 a hd hsz]; simp only [List.range, List.range.loop, List.map, e0, e1, e3]; clear e0 e1 e3 hsz hd hbox0 hrow0; clear hgl hvl; obtain ⟨hb, hbl⟩ := HB.out; have hKK : Keep (StT g v) w W' := (Keep.of_below (S := StT g v) hbl fun i hi h => by omega).trans hK fun i _ h => h
    have hbB : Below B w W' := hKK.below (B := B) (by omega) fun i hi h => by
      rcases h with h | h
      · omega
      · have := hvb i h; omega
    refine ⟨rfl, .tuple #[], by simp [results, Tryz.results40], rfl, hKK, v1, ?_, ⟨hbF, xs ++ [.slice A ks.length c], ?_, ?_⟩⟩
    · rcases hlF with h | ⟨i, h, hi⟩
      · exact .inl h
      · exact .inr ⟨i, h, by have := hbl.size; omega⟩
    · rw [List.length_append, hn]; exact hoF
    · exact (hh.below hbB (Nat.le_refl _)).snoc (by rw [hxl, hn]) hc (hr.below hbB (Nat.le_refl _))
end Go.Proofs.YtlaiocdnddnnaaaGreatDoor
namespace Go.Proofs.YtlaiocdnddnnaaaGreatDoor
open Go.RowKit
def Exit.jumps (J : Nat → Act → World → Prop) (Q : Exit → Act → World → Prop) : Exit → Act → World → Prop
  | .goto l, a, w => J l a w
  | e, a, w => Q e a w
section
variable {P : Program} {a : Act} {w : World} {Q : Exit → Act → World → Prop} {J : Nat → Act → World → Prop}
theorem wp_scope_ghost {c : Code} (J : Nat → Nat → Act → World → Prop) (first : c.wp P (Exit.jumps (fun l a w => ∃ g, J g l a w) Q) a w)
    (pass : ∀ g l a w, J g l a w → ∃ rest, findLabel c l = some rest ∧ rest.wp P (Exit.jumps (fun l' a' w' => ∃ g', g' < g ∧ J g' l' a' w') Q) a w) : (Code.scope c).wp P Q a w := by
  intro b k cs; have hg : ∀ l rest, findLabel c l = some rest → gotoIn l (.inScope c :: k) = some (.code rest :: .inScope c :: k) := fun l rest hf => by simp [gotoIn, hf]
  have key : ∀ n l a w, J n l a w → ∃ rest, findLabel c l = some rest ∧ ∃ e a' w', Q e a' w' ∧ Arrives P (lone (b.at a (.code rest :: .inScope c :: k)) cs w) b k cs e a' w' := by
    intro n
    induction n using Nat.strongRecOn with
    | _ n ih =>
      intro l a w hJ; obtain ⟨rest, hf, hp⟩ := pass n l a w hJ; refine ⟨rest, hf, ?_⟩; obtain ⟨e, a₁, w₁, hq, harr⟩ := hp b (.inScope c :: k) cs
      cases e with
      | normal => exact ⟨.normal, a₁, w₁, hq, Steps.trans harr (.one step_inScope)⟩
      | exit id => exact ⟨.exit id, a₁, w₁, hq, fun k' hk => harr k' (by simp [exitTo, hk])⟩
      | goto l' =>
        obtain ⟨g', hlt, hJ'⟩ := hq; obtain ⟨rest', hf', e₂, a₂, w₂, hq₂, harr₂⟩ := ih g' hlt l' a₁ w₁ hJ'; exact ⟨e₂, a₂, w₂, hq₂, .of_steps (harr _ (hg l' rest' hf')) harr₂⟩
      | ret => exact ⟨_, a₁, w₁, hq, harr⟩
      | panic ch => exact ⟨_, a₁, w₁, hq, harr⟩
      | outgrown => exact ⟨_, a₁, w₁, hq, harr⟩
  obtain ⟨e, a₁, w₁, hq, harr⟩ := first b (.inScope c :: k) cs
  cases e with
  | normal => exact ⟨.normal, a₁, w₁, hq, .head step_scope (Steps.trans harr (.one step_inScope))⟩
  | exit id => exact ⟨.exit id, a₁, w₁, hq, fun k' hk => .head step_scope (harr k' (by simp [exitTo, hk]))⟩
  | goto l' =>
    obtain ⟨g', hJ'⟩ := hq; obtain ⟨rest', hf', e₂, a₂, w₂, hq₂, harr₂⟩ := key g' l' a₁ w₁ hJ'; exact ⟨e₂, a₂, w₂, hq₂, .of_steps (.head step_scope (harr _ (hg l' rest' hf'))) harr₂⟩
  | ret => exact ⟨_, a₁, w₁, hq, .of_steps (.one step_scope) harr⟩
  | panic ch => exact ⟨_, a₁, w₁, hq, .of_steps (.one step_scope) harr⟩
  | outgrown => exact ⟨_, a₁, w₁, hq, .of_steps (.one step_scope) harr⟩
end
structure Way (w W : World) (B base g : Nat) (v : Value) (K : List (List Tr)) : Prop where
  bel : Below w.heap.size w W
  stk : Stk W B base g v K
  le : w.heap.size ≤ B ∧ B ≤ base ∧ B ≤ g ∧ base ≤ W.heap.size
section
variable {w W W' : World} {B base g : Nat} {v v' : Value} {K K' : List (List Tr)}
theorem Way.own_ge (h : Way w W B base g v K) : ∀ i, v.ownBlock = some i → base ≤ i := by
  obtain ⟨xs, h1, _⟩ := h.stk.row; exact fun i hi => (h1.lt i hi).1
theorem Way.keep_below (h : Way w W B base g v K) (hK : Keep (StT g v) W W') : Below B W W' :=
  hK.below (B := B) (by have := h.le; omega) fun i hi e => by
    rcases e with e | e
    · have := h.le; omega
    · have := h.own_ge i e; have := h.le; omega
theorem Way.step (h : Way w W B base g v K) (hK : Keep (StT g v) W W') (hs : Stk W' B base g v' K') : Way w W' B base g v' K' :=
  ⟨h.bel.trans ((h.keep_below hK).mono h.le.1), hs, h.le.1, h.le.2.1, h.le.2.2.1, by have := h.le.2.2.2; have := hK.size; omega⟩
theorem Way.below (h : Way w W B base g v K) (hb : Below W.heap.size W W') : Way w W' B base g v K :=
  ⟨h.bel.trans (hb.mono h.bel.size), h.stk.below hb (by have := h.le; omega), h.le.1, h.le.2.1, h.le.2.2.1, by have := h.le.2.2.2; have := hb.size; omega⟩
theorem Way.keep {S : Nat → Prop} (h : Way w W B base g v K) (hK : Keep S W W') (hg : ¬ S g) (hv : ∀ i, v.ownBlock = some i → ¬ S i) (hS : ∀ i, i < B → ¬ S i) : Way w W' B base g v K :=
  ⟨h.bel.trans ((hK.below (B := B) (by have := h.le; omega) hS).mono h.le.1), h.stk.keep hK hg hv hS (by have := h.le; omega), h.le.1, h.le.2.1, h.le.2.2.1, by have := h.le.2.2.2; have := hK.size; omega⟩
theorem Way.form (h : Way w W B base g v K) : ∃ S c, v = .slice S K.length c ∧ W.cell? ⟨g, 0, none⟩ = some (.slice S K.length c) := by
  obtain ⟨xs, h1, _⟩ := h.stk.row; obtain ⟨S, c, rfl, _⟩ := own_form h1; exact ⟨S, c, rfl, h.stk.box.cell 0⟩
end
theorem made_box {W1 W2 : World} {T : TypeId} {cs : Array Value} (hK : Keep (fun i => i = W1.heap.size) (W1.alloc (.cells cs T)) W2) : Below W1.heap.size W1 W2 :=
  (bel0 W1 _).trans (hK.below (B := W1.heap.size) (by simp) fun i hi e => by omega)
end Go.Proofs.YtlaiocdnddnnaaaGreatDoor
namespace Go.Proofs.YtlaiocdnddnnaaaGreatDoor
open Go.RowKit
section
variable {P : Program} {S : World → Prop} {E : World → World → Prop} {R : Value → World → Prop} {w w' : World} {o : Oper} {a : Act} {v : Value}
theorem lands_v (h : (execOp a.eval o).run P w = .ok (.value v) w') (hR : R v w' ∧ S w' ∧ E w w') : Lands P S E R w ((execOp a.eval o).run P w) := by
  rw [h]; exact hR
end
theorem run_ld {W : World} {o : Oper} {a : Act} {g : Nat} {p : Pay} {k : Value} (x : Operand) (ho : o.op = .load 47 x) (hx : a.eval x = .pointer (some ⟨g, 0, none⟩)) (hb : Bk W g 47 (ec p k).toArray) :
    (execOp a.eval o).run Tryz.prog W = .ok (.value (.agg (ec p k).toArray)) W := by
  unfold execOp; simp only [ho, hx, Instr.loadAt, Instr.sureAddr, Sem.run_bind, Sem.run_pure, Result.andThen_ok, run_loadVar_row W g 47 47 _ (0, 0) _ hb Tryz.underlying47 rfl (by rw [ec_size]; kernel_rfl)]
section
variable {P : Program} {S : World → Prop} {E : World → World → Prop} {R : Value → World → Prop} {W : World} {o : Oper} {a : Act}
theorem lands_st {ty T : TypeId} {g : Nat} (x y : Operand) {cs vs : List Value} (ho : o.op = .store ty x y) (hx : a.eval x = .pointer (some ⟨g, 0, none⟩)) (hy : a.eval y = .agg vs.toArray) (hi : (P.info? ty).map (·.size) = some vs.length)
    (h1 : ∀ v ∈ vs, v.oneCell' = true) (hb : Bk W g T cs.toArray) (hl : cs.length = vs.length) (h : R undef (W.setCells g 0 vs) ∧ S (W.setCells g 0 vs) ∧ E W (W.setCells g 0 vs)) : Lands P S E R W ((execOp a.eval o).run P W) := by
  have ht : W.there g 0 vs.toArray.size := fun j hj => by
    rw [List.size_toArray] at hj; rw [Nat.zero_add, hb.cell, hb.frozen]; exact ⟨by simp; omega, rfl⟩
  have hr : (execOp a.eval o).run P W = .ok .skip (W.setCells g 0 vs) := by
    unfold execOp; simp only [ho, hx, hy, Instr.storeAt, Instr.sureAddr, Sem.run_bind, Sem.run_pure, Result.andThen_ok, run_storeVar_mid W g 0 ty vs.toArray ht (by rw [List.size_toArray]; exact hi) (all_oneCell_toArray h1)]
  rw [hr]; exact h
theorem filled {g : Nat} {T : TypeId} {cs vs : List Value} (hb : Bk W g T cs.toArray) (hl : cs.length = vs.length) : Bk (W.setCells g 0 vs) g T vs.toArray := by
  have h2 := setCells_bk vs 0 cs W hb (by omega); rw [Nat.zero_add, List.drop_eq_nil_of_le (by omega), List.append_nil] at h2
  simpa using h2
end
end Go.Proofs.YtlaiocdnddnnaaaGreatDoor
namespace Go.Proofs.YtlaiocdnddnnaaaGreatDoor
open Go.RowKit
def HdrF (W : World) (F : Nat → Prop) (xs : List Value) (K : List (List Tr)) : Prop := ∀ (i : Nat) (ts : List Tr), K[i]? = some ts → ∃ A c, xs[i]? = some (.slice A ts.length c) ∧ ts.length ≤ c ∧ RowF treeF W F A ts.length ts
structure StkF (W : World) (F : Nat → Prop) (base g : Nat) (v : Value) (K : List (List Tr)) : Prop where
  box : Bk W g 96 #[v]
  row : ∃ xs, W.ownsRow base 45 1 v K.length xs ∧ HdrF W F xs K
  hf : ∀ i, F i → i < W.heap.size ∧ ¬ StT g v i
section
variable {W W' : World} {F : Nat → Prop} {base g : Nat} {v : Value} {K : List (List Tr)} {xs : List Value}
theorem HdrF.move (h : HdrF W F xs K) (hm : Move W F W' F) : HdrF W' F xs K := fun i ts hi => by
  obtain ⟨A, c, h1, h2, h3⟩ := h i ts hi; exact ⟨A, c, h1, h2, h3.move hm⟩
theorem HdrF.take (h : HdrF W F xs K) (m : Nat) : HdrF W F (xs.take m) (K.take m) := fun i ts hi => by
  rw [List.getElem?_take] at hi
  split at hi
  · obtain ⟨A, c, h1, h2, h3⟩ := h i ts hi; exact ⟨A, c, by rw [List.getElem?_take, if_pos (by assumption)]; exact h1, h2, h3⟩
  · cases hi
theorem HdrF.set {j : Nat} (h : HdrF W F xs K) {A : Option Addr} {c : Nat} {ts : List Tr} (hl : xs.length = K.length) (hc : ts.length ≤ c) (hr : RowF treeF W F A ts.length ts) : HdrF W F (xs.set j (.slice A ts.length c)) (K.set j ts) := fun i us hi => by
  rw [List.getElem?_set] at hi
  split at hi
  · subst_vars
    split at hi
    · injection hi with hi; subst hi; exact ⟨A, c, by rw [List.getElem?_set_self (by omega)], hc, hr⟩
    · cases hi
  · obtain ⟨A', c', h1, h2, h3⟩ := h i us hi; exact ⟨A', c', by rw [List.getElem?_set_ne (by assumption)]; exact h1, h2, h3⟩
theorem HdrF.snoc (h : HdrF W F xs K) {A : Option Addr} {c : Nat} {ts : List Tr} (hl : xs.length = K.length) (hc : ts.length ≤ c) (hr : RowF treeF W F A ts.length ts) : HdrF W F (xs ++ [.slice A ts.length c]) (K ++ [ts]) := fun i us hi => by
  rcases Nat.lt_trichotomy i K.length with h1 | h1 | h1
  · rw [List.getElem?_append_left h1] at hi; obtain ⟨A', c', h1', h2, h3⟩ := h i us hi; exact ⟨A', c', by rw [List.getElem?_append_left (by omega)]; exact h1', h2, h3⟩
  · subst h1; simp at hi; subst hi; exact ⟨A, c, by rw [← hl]; simp, hc, hr⟩
  · rw [List.getElem?_eq_none (by simp; omega)] at hi
    cases hi
theorem StkF.len (h : StkF W F base g v K) : g < W.heap.size := h.box.lt
theorem StkF.ne (h : StkF W F base g v K) : v.ownBlock ≠ some g := by
  obtain ⟨xs, h1, h2⟩ := h.row; exact own_ne h1 h.box (by decide)
theorem StkF.lies (h : StkF W F base g v K) : ∀ i, v.ownBlock = some i → base ≤ i ∧ i < W.heap.size := by
  obtain ⟨xs, h1, _⟩ := h.row; exact h1.lt
theorem StkF.keep {S : Nat → Prop} (h : StkF W F base g v K) (hk : Keep S W W') (hg : ¬ S g) (hv : ∀ i, v.ownBlock = some i → ¬ S i) (hS : ∀ i, F i → ¬ S i) : StkF W' F base g v K := by
  obtain ⟨xs, h1, h2⟩ := h.row; exact ⟨hk.bk h.box hg, ⟨xs, hk.own h1 hv, h2.move (hk.move (fun i hi => ⟨(h.hf i hi).1, hS i hi⟩) fun _ h => h)⟩, fun i hi => ⟨Nat.lt_of_lt_of_le (h.hf i hi).1 hk.size, (h.hf i hi).2⟩⟩
theorem StkF.below (h : StkF W F base g v K) (hb : Below W.heap.size W W') : StkF W' F base g v K :=
  h.keep (S := fun i => W.heap.size ≤ i) (Keep.of_below hb fun i _ h => h) (by have := h.len; omega) (fun i hi => by have := (h.lies i hi).2; omega) fun i hi => by have := (h.hf i hi).1; omega
theorem StkF.form (h : StkF W F base g v K) : ∃ S c, v = .slice S K.length c ∧ W.cell? ⟨g, 0, none⟩ = some (.slice S K.length c) := by
  obtain ⟨xs, h1, _⟩ := h.row; obtain ⟨S, c, rfl, _⟩ := own_form h1; exact ⟨S, c, rfl, h.box.cell 0⟩
end
end Go.Proofs.YtlaiocdnddnnaaaGreatDoor
