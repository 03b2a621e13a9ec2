/- ptg.reader.read, by their contracts. Conditions: the bytes read as such; the stack is there; utf8.ValidString keeps its contract. -/
import Derived.Test.YtlaiocdnddnnaaaGreatDoorRs12
import Derived.Test.YtlaiocdnddnnaaaGreatDoorA8O
set_option linter.unusedVariables false
set_option linter.unusedSimpArgs false
namespace Go.Proofs.YtlaiocdnddnnaaaGreatDoor
open Go.RowKit
theorem bx_base {w0 w W : World} {bs : Bxs} {g : Nat} {ty : TypeId} {cs : List Value} (h : BX w bs W) (hb : Below w0.heap.size w0 w) (hg : w0.heap.size ≤ g) (hk : Bk w g ty cs.toArray) : BX w0 (bs ++ [(g, ty, cs)]) W := by
  have hz := hb.size; have hlt := hk.lt; refine ⟨hb.trans (h.bel.mono hz), fun b hm => ?_, fun b hm => ?_, ?_⟩
  · rcases List.mem_append.1 hm with hm | hm
    · have := h.lo b hm; omega
    · simp only [List.mem_singleton] at hm; subst hm; exact hg
  · rcases List.mem_append.1 hm with hm | hm
    · exact h.bk b hm
    · simp only [List.mem_singleton] at hm; subst hm; exact hk.below h.bel hlt
  · rw [List.map_append, List.nodup_append]; refine ⟨h.nd, by simp, fun a ha b hb2 e => ?_⟩; obtain ⟨x, hx, rfl⟩ := List.mem_map.1 ha; simp only [List.map_cons, List.map_nil, List.mem_singleton] at hb2; subst hb2; have := h.lo x hx; omega
section
variable {P : Program} {S : World → Prop} {F : World → World → Prop} {R : Value → World → Prop} {w : World} {o : Oper} {a : Act} {v X Y : Value} {t : TypeId}
theorem lands_lo (x lo : Operand) (ho : o.op = .slice t x (some lo) none none) (hx : a.eval x = X) (hl : a.eval lo = Y) (hrun : (Instr.sliceAt t X (some Y) none none).run P w = .ok v w) (h : R v w ∧ S w ∧ F w w) : Lands P S F R w ((execOp a.eval o).run P w) := by
  simp [execOp, ho, hx, hl, hrun, Result.andThen]; exact h
theorem lands_hiB (x hi : Operand) (ho : o.op = .slice t x none (some hi) none) (hx : a.eval x = X) (hl : a.eval hi = Y) (hrun : (Instr.sliceAt t X none (some Y) none).run P w = .ok v w) (h : R v w ∧ S w ∧ F w w) : Lands P S F R w ((execOp a.eval o).run P w) := by
  simp [execOp, ho, hx, hl, hrun, Result.andThen]; exact h
end
theorem cut_block {A : Option Addr} {n c m : Nat} : (Value.slice A m c).ownBlock = (Value.slice A n c).ownBlock := by cases A <;> rfl
set_option maxRecDepth 20000 in
set_option maxHeartbeats 4000000 in
theorem read_err {w0 w : World} {A A1 : Option Addr} {n c i cnt g k c1 tk : Nat} {p : Pay} {nx : Nat} {E : Int} (HG : Hid (∀ W : World, Below w.heap.size w W → Calls Tryz.prog 84 #[.agg #[.slice A n c, .int .i64 i]] W fun e W' => ∃ (q : Got) (z : Int), e = .returned (.tuple #[.agg (tkV q).toArray, .agg (cu A n c z).toArray, .int .i64 E]) ∧ Below W.heap.size W W')) (hE : ¬ E = 0) (HRB : Hid (Bk w g 84 (rd4 A n c i cnt (.slice A1 k c1)).toArray)) :
    Calls Tryz.prog 52 #[.pointer (some ⟨g, 0, none⟩)] w fun e W => e = .returned (.int .i64 E) ∧ Below w.heap.size w W := by
  have hE2 : (E != 0) = true := by simpa using hE
  have HB : Hid (BX w [] w) := Lib.hid (BX.start w); have c0 : w.cell? ⟨g, 0, none⟩ = some (.slice A n c) := HRB.out.cell 0; have c1_ : w.cell? ⟨g, 1, none⟩ = some (.int .i64 i) := HRB.out.cell 1; go_enter Tryz.func52, Tryz.ntmps52
  repeat' (first | go_values | go_skip | go_guarded | go_step | go_upon)
  refine (HG.out _ HB.out.bel).mono ?_; rintro e W1 ⟨q, z, rfl, hb⟩; have HB := Lib.hid (HB.out.call hb); clear hb c0 c1_; dsimp only; unfold tkV
  repeat' (first | ((with_reducible show Oper.wp _ _ _ _ _ _); (first | ((first | (with_reducible refine is_al 82 rfl ?_; refine al_g HB 82 (cu none 0 0 0) (by kernel_rfl) ?_) | (with_reducible refine is_al 144 rfl ?_; refine al_g HB 144 (tc zp (.slice none 0 0) 0) (by kernel_rfl) ?_)); clear HB; (first | (have _t : Nat := g0; clear _t; intro g1 W HB) | intro g0 W HB); go_simp) | ((first | (with_reducible refine is_st 82 _ _ rfl ?_; refine st_cu 0 HB rfl _ _ rfl rfl rfl ?_) | (with_reducible refine is_st 144 _ _ rfl ?_; refine st_tc 1 HB rfl _ _ rfl rfl rfl ?_)); clear HB; intro W HB; dsimp only [List.set] at HB; go_simp))) | go_values | go_skip | go_guarded | go_step | go_upon)
  go_ret; exact ⟨rfl, HB.out.bel⟩
set_option maxRecDepth 20000 in
set_option maxHeartbeats 4000000 in
theorem read_few {w0 w : World} {A A1 : Option Addr} {n c i cnt g k c1 tk : Nat} {p : Pay} {nx : Nat} {E : Int} (HG : Hid (∀ W : World, Below w.heap.size w W → Calls Tryz.prog 84 #[.agg #[.slice A n c, .int .i64 i]] W fun e W' => ∃ (q : Got) (z : Int), e = .returned (.tuple #[.agg (tkV q).toArray, .agg (cu A n c z).toArray, .int .i64 (0 : Int)]) ∧ (q.pay = p ∧ q.takes = tk ∧ z = (nx : Int)) ∧ Below W.heap.size W W')) (HRB : Hid (Bk w g 84 (rd4 A n c i cnt (.slice A1 k c1)).toArray)) (hk : k < tk) (hb1 : k ≤ 100000) (hb2 : tk ≤ 100000) :
    Calls Tryz.prog 52 #[.pointer (some ⟨g, 0, none⟩)] w fun e W => e = .returned (.int .i64 10) ∧ Below w.heap.size w W := by
  obtain ⟨fi, hfi⟩ : ∃ fi : Int, (k : Int) - (tk : Int) = fi := ⟨_, rfl⟩
  have hwr : IntKind.i64.wrap ((k : Int) - (tk : Int)) = fi := by rw [hfi]; exact IntWalk.i64_in _ (by omega)
  have hlt : fi < 0 := by omega
  clear hfi hk hb1 hb2; have HB : Hid (BX w [] w) := Lib.hid (BX.start w); have c0 : w.cell? ⟨g, 0, none⟩ = some (.slice A n c) := HRB.out.cell 0; have c1_ : w.cell? ⟨g, 1, none⟩ = some (.int .i64 i) := HRB.out.cell 1; go_enter Tryz.func52, Tryz.ntmps52
  repeat' (first | go_values | go_skip | go_guarded | go_step | go_upon)
  refine (HG.out _ HB.out.bel).mono ?_; rintro e W1 ⟨⟨er, p, tk⟩, z, rfl, ⟨e1, e2, e3⟩, hb⟩; dsimp only at e1 e2; subst e1 e2 e3; have HB := Lib.hid (HB.out.call hb); clear hb c0 c1_; dsimp only; unfold tkV
  repeat' (first | ((with_reducible show Oper.wp _ _ _ _ _ _); (first | ((first | (with_reducible refine is_al 82 rfl ?_; refine al_g HB 82 (cu none 0 0 0) (by kernel_rfl) ?_) | (with_reducible refine is_al 144 rfl ?_; refine al_g HB 144 (tc zp (.slice none 0 0) 0) (by kernel_rfl) ?_)); clear HB; (first | (have _t : Nat := g0; clear _t; intro g1 W HB) | intro g0 W HB); go_simp) | ((first | (with_reducible refine is_st 82 _ _ rfl ?_; refine st_cu 0 HB rfl _ _ rfl rfl rfl ?_) | (with_reducible refine is_st 144 _ _ rfl ?_; refine st_tc 1 HB rfl _ _ rfl rfl rfl ?_)); clear HB; intro W HB; dsimp only [List.set] at HB; go_simp))) | go_values | go_skip | go_guarded | go_step | go_upon)
  refine wp_region_phases (S := (SBN w [[(g1, 82, cu A n c nx), (g0, 144, tc p (.slice none 0 0) tk)]])) (E := (fun _ _ => True)) [] [(0, Is (.pointer (some ⟨g, 0, none⟩))), (3, Is (.pointer (some ⟨g0, 0, none⟩))), (4, Is (.pointer (some ⟨g1, 0, none⟩)))] [(19, Is (.pointer (some ⟨g, 0, none⟩))), (20, Is (.pointer (some ⟨g, 0, none⟩))), (21, Is (.pointer (some ⟨g, 3, none⟩))), (22, Is (.slice A1 k c1)), (23, Is (.int .i64 k)), (24, Is (.pointer (some ⟨g0, 18, none⟩))), (25, Is (.int .i64 tk)), (26, Is (.int .i64 fi)), (6, Is (.int .i64 fi))]
    [.op [0] none, .op [19] none, .op [20] none, .op [21] none, .op [22] none, .op [3] none, .op [24] none, .op [23, 25] none, .op [26] none] (by as_aux_lemma => kernel_rfl) ?_ ?_ ?_ ?_ ?_ ⟨stable_is _ _, stable_is _ _, stable_is _ _, stable_is _ _, stable_is _ _, stable_is _ _, stable_is _ _, stable_is _ _, stable_is _ _, stable_is _ _, stable_is _ _, stable_is _ _, trivial⟩ ?_ HB.out.drew ?_ ?_
  · as_aux_lemma => kernel_rfl
  · as_aux_lemma => kernel_rfl
  · as_aux_lemma => kernel_rfl
  · as_aux_lemma => kernel_rfl
  · as_aux_lemma => kernel_rfl
  · exact ⟨rfl, rfl, rfl, trivial⟩
  · refine ⟨?_, ?_, ?_, ?_, ?_, ?_, ?_, ?_, ?_, trivial⟩
    · as_aux_lemma => intro vals a W hS hL; have e0 : a.tmps.getD 0 undef = .pointer (some ⟨g, 0, none⟩) := hL.1; clear hL; go_simp; exact ⟨dstY (by rfl), hS, trivial⟩
    · as_aux_lemma => intro vals a W hS hL; have e19 : a.tmps.getD 19 undef = .pointer (some ⟨g, 0, none⟩) := hL.1; clear hL; go_simp; exact ⟨dstY (by rfl), hS, trivial⟩
    · as_aux_lemma => intro vals a W hS hL; have e20 : a.tmps.getD 20 undef = .pointer (some ⟨g, 0, none⟩) := hL.1; clear hL; go_simp; exact ⟨dstY (by rfl), hS, trivial⟩
    · as_aux_lemma => intro vals a W hS hL; have e21 : a.tmps.getD 21 undef = .pointer (some ⟨g, 3, none⟩) := hL.1; clear hL; have f3 : W.cell? ⟨g, 3, none⟩ = some (.slice A1 k c1) := (HRB.out.below hS.bel HRB.out.lt).cell 3; go_simp; exact ⟨dstY (by rfl), hS, trivial⟩
    · as_aux_lemma => intro vals a W hS hL; have e22 : a.tmps.getD 22 undef = .slice A1 k c1 := hL.1; clear hL; go_simp; exact ⟨dstY (by rfl), hS, trivial⟩
    · as_aux_lemma => intro vals a W hS hL; have e3 : a.tmps.getD 3 undef = .pointer (some ⟨g0, 0, none⟩) := hL.1; clear hL; go_simp; exact ⟨dstY (by rfl), hS, trivial⟩
    · as_aux_lemma => intro vals a W hS hL; have e24 : a.tmps.getD 24 undef = .pointer (some ⟨g0, 18, none⟩) := hL.1; clear hL; have f18 : W.cell? ⟨g0, 18, none⟩ = some (.int .i64 tk) := (hS.get 1 ⟨rfl, trivial⟩).cell 18; go_simp; exact ⟨dstY (by rfl), hS, trivial⟩
    · as_aux_lemma => intro vals a W hS hL; have e23 : a.tmps.getD 23 undef = .int .i64 k := hL.1; have e25 : a.tmps.getD 25 undef = .int .i64 tk := hL.2.1; clear hL; go_simp; exact ⟨dstY (by rfl), hS, trivial⟩
    · as_aux_lemma => intro vals a W hS hL; have e26 : a.tmps.getD 26 undef = .int .i64 fi := hL.1; clear hL; go_simp; exact ⟨dstY (by rfl), hS, trivial⟩
  · intro a W vals hd hsz hT hF hv hP hS; obtain rfl : vals = [] := List.eq_nil_of_length_eq_zero hv; have HB : Hid (BX w [(g1, 82, cu A n c nx), (g0, 144, tc p (.slice none 0 0) tk)] W) := Lib.hid hS; have e0 : a.tmps.getD 0 undef = .pointer (some ⟨g, 0, none⟩) := hT 0 (by simp); have e3 : a.tmps.getD 3 undef = .pointer (some ⟨g0, 0, none⟩) := hT 3 (by simp); have e4 : a.tmps.getD 4 undef = .pointer (some ⟨g1, 0, none⟩) := hT 4 (by simp); have e6 : a.tmps.getD 6 undef = .int .i64 fi := hT 6 (by simp); clear hT hF hP hS; rw [act_lit 65 a hd hsz]; simp only [List.range, List.range.loop, List.map, e0, e3, e4, e6]; clear e0 e3 e4 e6 hsz hd; generalize a.tmps.getD 1 undef = y1, a.tmps.getD 2 undef = y2, a.tmps.getD 5 undef = y5, a.tmps.getD 7 undef = y7, a.tmps.getD 8 undef = y8, a.tmps.getD 9 undef = y9, a.tmps.getD 10 undef = y10, a.tmps.getD 11 undef = y11, a.tmps.getD 12 undef = y12, a.tmps.getD 13 undef = y13, a.tmps.getD 14 undef = y14, a.tmps.getD 15 undef = y15, a.tmps.getD 16 undef = y16, a.tmps.getD 17 undef = y17, a.tmps.getD 18 undef = y18, a.tmps.getD 19 undef = y19, a.tmps.getD 20 undef = y20, a.tmps.getD 21 undef = y21, a.tmps.getD 22 undef = y22, a.tmps.getD 23 undef = y23, a.tmps.getD 24 undef = y24, a.tmps.getD 25 undef = y25, a.tmps.getD 26 undef = y26, a.tmps.getD 27 undef = y27, a.tmps.getD 28 undef = y28, a.tmps.getD 29 undef = y29, a.tmps.getD 30 undef = y30, a.tmps.getD 31 undef = y31, a.tmps.getD 32 undef = y32, a.tmps.getD 33 undef = y33, a.tmps.getD 34 undef = y34, a.tmps.getD 35 undef = y35, a.tmps.getD 36 undef = y36, a.tmps.getD 37 undef = y37, a.tmps.getD 38 undef = y38, a.tmps.getD 39 undef = y39, a.tmps.getD 40 undef = y40, a.tmps.getD 41 undef = y41, a.tmps.getD 42 undef = y42, a.tmps.getD 43 undef = y43, a.tmps.getD 44 undef = y44, a.tmps.getD 45 undef = y45, a.tmps.getD 46 undef = y46, a.tmps.getD 47 undef = y47, a.tmps.getD 48 undef = y48, a.tmps.getD 49 undef = y49, a.tmps.getD 50 undef = y50, a.tmps.getD 51 undef = y51, a.tmps.getD 52 undef = y52, a.tmps.getD 53 undef = y53, a.tmps.getD 54 undef = y54, a.tmps.getD 55 undef = y55, a.tmps.getD 56 undef = y56, a.tmps.getD 57 undef = y57, a.tmps.getD 58 undef = y58, a.tmps.getD 59 undef = y59, a.tmps.getD 60 undef = y60, a.tmps.getD 61 undef = y61, a.tmps.getD 62 undef = y62, a.tmps.getD 63 undef = y63, a.tmps.getD 64 undef = y64; clear hwr
    repeat' (first | go_values | go_skip | go_guarded | go_step | go_upon)
    go_ret; exact ⟨rfl, HB.out.bel⟩
section
variable {o : Oper} {a : Act} {w W : World} {K : Act → World → Prop} {Q : Exit → Act → World → Prop} {bs : Bxs} {g i k : Nat} {ty T : TypeId} {cs vs : List Value} {u0 : Value}
theorem ss_gk {off : Nat} (R : RowT ty vs.length) (h1 : ∀ u ∈ vs, u.oneCell' = true) (H : Hid (BX w bs W)) (hi : bs[i]? = some (g, T, cs)) (hl : off + vs.length ≤ cs.length) (x y : Operand) (ho : o.op = .store ty x y) (hx : a.eval x = .pointer (some ⟨g, off, none⟩)) (hy : a.eval y = .agg vs.toArray)
    {ds : List Value} (hd : cs.take off ++ vs ++ cs.drop (off + vs.length) = ds) (h : ∀ W', Hid (BX w (bs.set i (g, T, ds)) W') → Keep (fun j => j = g) W W' → K (a.put o.dst undef) W') : o.wp Tryz.prog a W K Q := by
  have hb := H.out.get hi; refine wp_store_mid _ x y ho g off vs.toArray hx hy (fun j hj => ?_) (by rw [List.size_toArray]; exact R.size) (all_oneCell_toArray h1) ?_
  · rw [List.size_toArray] at hj; rw [hb.cell, hb.frozen]; exact ⟨by simp; omega, rfl⟩
  · have h2 := setCells_bk vs off cs W hb hl; rw [hd] at h2; exact h _ (Lib.hid (H.out.turn hi h2 (setCells_keep _ _ _))) (setCells_keep _ _ _)
theorem sf_intk (H : Hid (BX w bs W)) (hi : bs[i]? = some (g, T, cs)) (x y : Operand) (ho : o.op = .store 3 x y) (hx : a.eval x = .pointer (some ⟨g, k, none⟩)) {z : Int} (hy : a.eval y = .int .i64 z) (hc : cs[k]? = some u0) {ds : List Value} (hd : cs.set k (.int .i64 z) = ds)
    (h : ∀ W', Hid (BX w (bs.set i (g, T, ds)) W') → Keep (fun j => j = g) W W' → K (a.put o.dst undef) W') : o.wp Tryz.prog a W K Q := by
  have c := H.out.cell hi k; rw [hc] at c; have f := H.out.frozen hi k; have hK : Keep (fun i => i = g) W (W.setCell ⟨g, k, none⟩ (.int .i64 z)) := (Keep.refl (fun i => i = g) W).setCell (p := ⟨g, k, none⟩) (fun _ => rfl) _
  have hk : BX w (bs.set i (g, T, ds)) (W.setCell ⟨g, k, none⟩ (.int .i64 z)) := by
    rw [← hd]; exact H.out.turn hi (sf_bk (H.out.get hi)) hK
  have h2 := h _ (Lib.hid hk) hK; unfold Oper.wp execOp; rw [ho]; simp only [hx, hy]; clear ho hx hy hi H hk h hc hK; go_simp; exact h2
end
def StkX (W : World) (b g : Nat) (u : Value) (o : List Tr) : Prop := u.ownBlock ≠ some g ∧ ∃ S, Trs W (Gw b g u W) S ∧ S.map (·.2) = o ∧ W.ownsRow b 47 18 u o.length (S.flatMap (·.1))
theorem StkX.keep {W W' : World} {b g : Nat} {u : Value} {o : List Tr} (h : StkX W b g u o) (hK : Keep (fun j => j = g) W W') : StkX W' b g u o := by
  obtain ⟨h0, S, h1, h2, h3⟩ := h; refine ⟨h0, S, h1.move fun i hi => ⟨⟨hi.1, Nat.lt_of_lt_of_le hi.2.1 hK.size, hi.2.2⟩, hK.block i hi.2.1 fun e => hi.2.2 (.inl e)⟩, h2, hK.own h3 fun i hi e => ?_⟩; subst e; exact h0 hi
theorem tc_sub {p : Pay} {K u : Value} {z : Int} {j : Nat} (h : (ec p K)[j]? = some u) : (tc p K z).toArray[j]? = some u := by
  have hj : j < (ec p K).length := (List.getElem?_eq_some_iff.1 h).1; unfold tc; rw [List.getElem?_toArray, List.getElem?_append_left hj]; exact h
theorem stab_one {n0 g : Nat} {v : Value} {cs : Array Value} {t : TypeId} (hg : g < n0) (hv : ∀ i, v.ownBlock = some i → i < n0) : Stable (fun W W' => Keep (ApT g v) W W') (fun u W => ∃ h, u = .slice (some ⟨h, 0, none⟩) 1 1 ∧ n0 ≤ h ∧ Bk W h t cs) := by
  rintro u W W' hK ⟨h, rfl, hh, hb⟩; refine ⟨h, rfl, hh, hK.bk hb ?_⟩; rintro (rfl | hi)
  · omega
  · have := hv _ hi; omega
theorem Keep.bk_same {W W' : World} {T : Nat → Prop} {g : Nat} {t : TypeId} {cs : Array Value} {v : Value} (_ : Keep T W W') (hb : Bk W g t cs) (hg : Grew W W' (.slice none 0 0) v) : Bk W' g t cs :=
  (Keep.of_grew (S := fun _ => False) hg fun i hi => by cases hi).bk hb fun h => h
set_option maxRecDepth 20000 in
set_option maxHeartbeats 4000000 in
theorem read_ok {w0 w : World} {A A1 : Option Addr} {n c i cnt g k c1 tk : Nat} {p : Pay} {nx : Nat} {E : Int} {fN : Nat} {ops : List Tr} (HG : Hid (∀ W : World, Below w.heap.size w W → Calls Tryz.prog 84 #[.agg #[.slice A n c, .int .i64 i]] W fun e W' => ∃ (q : Got) (z : Int), e = .returned (.tuple #[.agg (tkV q).toArray, .agg (cu A n c z).toArray, .int .i64 (0 : Int)]) ∧ (q.pay = p ∧ q.takes = tk ∧ z = (nx : Int)) ∧ Below W.heap.size W W')) (HW : Hid (Below w0.heap.size w0 w)) (HR : Hid (Rdr w w0.heap.size g A n c i cnt (.slice A1 k c1) ops)) (HKB : Hid (k ≤ 100000 ∧ cnt ≤ 100000)) (hkl : k = ops.length) (hf : fN + tk = k) :
    Calls Tryz.prog 52 #[.pointer (some ⟨g, 0, none⟩)] w fun e W => ∃ v, e = .returned (.int .i64 0) ∧ Below w0.heap.size w0 W ∧ Rdr W w0.heap.size g A n c nx (cnt + 1) v (ops.take fN ++ [.mk p (ops.drop fN)]) := by
  have HRB := Lib.hid HR.out.box
  have hwr : IntKind.i64.wrap ((k : Int) - (tk : Int)) = fN := by
    have := HKB.out; rw [show (k : Int) - (tk : Int) = fN by omega]; exact IntWalk.i64_in _ (by omega)
  have hf0 : ¬ ((fN : Int) < 0) := by omega
  have HFK : Hid (fN ≤ k) := Lib.hid (by omega); have HKL := Lib.hid hkl; clear hf hkl; have HB : Hid (BX w [] w) := Lib.hid (BX.start w); have c0 : w.cell? ⟨g, 0, none⟩ = some (.slice A n c) := HRB.out.cell 0; have c1_ : w.cell? ⟨g, 1, none⟩ = some (.int .i64 i) := HRB.out.cell 1; go_enter Tryz.func52, Tryz.ntmps52
  repeat' (first | go_values | go_skip | go_guarded | go_step | go_upon)
  refine (HG.out _ HB.out.bel).mono ?_; rintro e W1 ⟨⟨er, p, tk⟩, z, rfl, ⟨e1, e2, e3⟩, hb⟩; dsimp only at e1 e2; subst e1 e2 e3; have HB := Lib.hid (HB.out.call hb); clear hb c0 c1_; dsimp only; unfold tkV
  repeat' (first | ((with_reducible show Oper.wp _ _ _ _ _ _); (first | ((first | (with_reducible refine is_al 82 rfl ?_; refine al_g HB 82 (cu none 0 0 0) (by kernel_rfl) ?_) | (with_reducible refine is_al 144 rfl ?_; refine al_g HB 144 (tc zp (.slice none 0 0) 0) (by kernel_rfl) ?_)); clear HB; (first | (have _t : Nat := g0; clear _t; intro g1 W HB) | intro g0 W HB); go_simp) | ((first | (with_reducible refine is_st 82 _ _ rfl ?_; refine st_cu 0 HB rfl _ _ rfl rfl rfl ?_) | (with_reducible refine is_st 144 _ _ rfl ?_; refine st_tc 1 HB rfl _ _ rfl rfl rfl ?_)); clear HB; intro W HB; dsimp only [List.set] at HB; go_simp))) | go_values | go_skip | go_guarded | go_step | go_upon)
  refine wp_region_phases (S := (SBN w [[(g1, 82, cu A n c nx), (g0, 144, tc p (.slice none 0 0) tk)]])) (E := (fun _ _ => True)) [] [(0, Is (.pointer (some ⟨g, 0, none⟩))), (3, Is (.pointer (some ⟨g0, 0, none⟩))), (4, Is (.pointer (some ⟨g1, 0, none⟩)))] [(19, Is (.pointer (some ⟨g, 0, none⟩))), (20, Is (.pointer (some ⟨g, 0, none⟩))), (21, Is (.pointer (some ⟨g, 3, none⟩))), (22, Is (.slice A1 k c1)), (23, Is (.int .i64 k)), (24, Is (.pointer (some ⟨g0, 18, none⟩))), (25, Is (.int .i64 tk)), (26, Is (.int .i64 fN)), (6, Is (.int .i64 fN))]
    [.op [0] none, .op [19] none, .op [20] none, .op [21] none, .op [22] none, .op [3] none, .op [24] none, .op [23, 25] none, .op [26] none] (by as_aux_lemma => kernel_rfl) ?_ ?_ ?_ ?_ ?_ ⟨stable_is _ _, stable_is _ _, stable_is _ _, stable_is _ _, stable_is _ _, stable_is _ _, stable_is _ _, stable_is _ _, stable_is _ _, stable_is _ _, stable_is _ _, stable_is _ _, trivial⟩ ?_ HB.out.drew ?_ ?_
  · as_aux_lemma => kernel_rfl
  · as_aux_lemma => kernel_rfl
  · as_aux_lemma => kernel_rfl
  · as_aux_lemma => kernel_rfl
  · as_aux_lemma => kernel_rfl
  · exact ⟨rfl, rfl, rfl, trivial⟩
  · refine ⟨?_, ?_, ?_, ?_, ?_, ?_, ?_, ?_, ?_, trivial⟩
    · as_aux_lemma => intro vals a W hS hL; have e0 : a.tmps.getD 0 undef = .pointer (some ⟨g, 0, none⟩) := hL.1; clear hL; go_simp; exact ⟨dstY (by rfl), hS, trivial⟩
    · as_aux_lemma => intro vals a W hS hL; have e19 : a.tmps.getD 19 undef = .pointer (some ⟨g, 0, none⟩) := hL.1; clear hL; go_simp; exact ⟨dstY (by rfl), hS, trivial⟩
    · as_aux_lemma => intro vals a W hS hL; have e20 : a.tmps.getD 20 undef = .pointer (some ⟨g, 0, none⟩) := hL.1; clear hL; go_simp; exact ⟨dstY (by rfl), hS, trivial⟩
    · as_aux_lemma => intro vals a W hS hL; have e21 : a.tmps.getD 21 undef = .pointer (some ⟨g, 3, none⟩) := hL.1; clear hL; have f3 : W.cell? ⟨g, 3, none⟩ = some (.slice A1 k c1) := (HRB.out.below hS.bel HRB.out.lt).cell 3; go_simp; exact ⟨dstY (by rfl), hS, trivial⟩
    · as_aux_lemma => intro vals a W hS hL; have e22 : a.tmps.getD 22 undef = .slice A1 k c1 := hL.1; clear hL; go_simp; exact ⟨dstY (by rfl), hS, trivial⟩
    · as_aux_lemma => intro vals a W hS hL; have e3 : a.tmps.getD 3 undef = .pointer (some ⟨g0, 0, none⟩) := hL.1; clear hL; go_simp; exact ⟨dstY (by rfl), hS, trivial⟩
    · as_aux_lemma => intro vals a W hS hL; have e24 : a.tmps.getD 24 undef = .pointer (some ⟨g0, 18, none⟩) := hL.1; clear hL; have f18 : W.cell? ⟨g0, 18, none⟩ = some (.int .i64 tk) := (hS.get 1 ⟨rfl, trivial⟩).cell 18; go_simp; exact ⟨dstY (by rfl), hS, trivial⟩
    · as_aux_lemma => intro vals a W hS hL; have e23 : a.tmps.getD 23 undef = .int .i64 k := hL.1; have e25 : a.tmps.getD 25 undef = .int .i64 tk := hL.2.1; clear hL; go_simp; exact ⟨dstY (by rfl), hS, trivial⟩
    · as_aux_lemma => intro vals a W hS hL; have e26 : a.tmps.getD 26 undef = .int .i64 fN := hL.1; clear hL; go_simp; exact ⟨dstY (by rfl), hS, trivial⟩
  · intro a W vals hd hsz hT hF hv hP hS; obtain rfl : vals = [] := List.eq_nil_of_length_eq_zero hv; have HB : Hid (BX w [(g1, 82, cu A n c nx), (g0, 144, tc p (.slice none 0 0) tk)] W) := Lib.hid hS; have e0 : a.tmps.getD 0 undef = .pointer (some ⟨g, 0, none⟩) := hT 0 (by simp); have e3 : a.tmps.getD 3 undef = .pointer (some ⟨g0, 0, none⟩) := hT 3 (by simp); have e4 : a.tmps.getD 4 undef = .pointer (some ⟨g1, 0, none⟩) := hT 4 (by simp); have e6 : a.tmps.getD 6 undef = .int .i64 fN := hT 6 (by simp); clear hT hF hP hS; rw [act_lit 65 a hd hsz]; simp only [List.range, List.range.loop, List.map, e0, e3, e4, e6]; clear e0 e3 e4 e6 hsz hd; generalize a.tmps.getD 1 undef = y1, a.tmps.getD 2 undef = y2, a.tmps.getD 5 undef = y5, a.tmps.getD 7 undef = y7, a.tmps.getD 8 undef = y8, a.tmps.getD 9 undef = y9, a.tmps.getD 10 undef = y10, a.tmps.getD 11 undef = y11, a.tmps.getD 12 undef = y12, a.tmps.getD 13 undef = y13, a.tmps.getD 14 undef = y14, a.tmps.getD 15 undef = y15, a.tmps.getD 16 undef = y16, a.tmps.getD 17 undef = y17, a.tmps.getD 18 undef = y18, a.tmps.getD 19 undef = y19, a.tmps.getD 20 undef = y20, a.tmps.getD 21 undef = y21, a.tmps.getD 22 undef = y22, a.tmps.getD 23 undef = y23, a.tmps.getD 24 undef = y24, a.tmps.getD 25 undef = y25, a.tmps.getD 26 undef = y26, a.tmps.getD 27 undef = y27, a.tmps.getD 28 undef = y28, a.tmps.getD 29 undef = y29, a.tmps.getD 30 undef = y30, a.tmps.getD 31 undef = y31, a.tmps.getD 32 undef = y32, a.tmps.getD 33 undef = y33, a.tmps.getD 34 undef = y34, a.tmps.getD 35 undef = y35, a.tmps.getD 36 undef = y36, a.tmps.getD 37 undef = y37, a.tmps.getD 38 undef = y38, a.tmps.getD 39 undef = y39, a.tmps.getD 40 undef = y40, a.tmps.getD 41 undef = y41, a.tmps.getD 42 undef = y42, a.tmps.getD 43 undef = y43, a.tmps.getD 44 undef = y44, a.tmps.getD 45 undef = y45, a.tmps.getD 46 undef = y46, a.tmps.getD 47 undef = y47, a.tmps.getD 48 undef = y48, a.tmps.getD 49 undef = y49, a.tmps.getD 50 undef = y50, a.tmps.getD 51 undef = y51, a.tmps.getD 52 undef = y52, a.tmps.getD 53 undef = y53, a.tmps.getD 54 undef = y54, a.tmps.getD 55 undef = y55, a.tmps.getD 56 undef = y56, a.tmps.getD 57 undef = y57, a.tmps.getD 58 undef = y58, a.tmps.getD 59 undef = y59, a.tmps.getD 60 undef = y60, a.tmps.getD 61 undef = y61, a.tmps.getD 62 undef = y62, a.tmps.getD 63 undef = y63, a.tmps.getD 64 undef = y64; clear hwr
    repeat' (first | go_values | go_skip | go_guarded | go_step | go_upon)
    obtain ⟨SS, hSS, hSm, hSo⟩ := HR.out.row; have hSl : SS.length = k := by rw [HKL.out, ← hSm, List.length_map]
    rw [← HKL.out] at hSo; have HSL := Lib.hid hSS.len; have HT0 := Lib.hid (HB.out.get (i := 1) rfl); have hmv : Move w (Gw w0.heap.size g (.slice A1 k c1) w) W (Gw w0.heap.size g (.slice A1 k c1) w) := fun i hi => ⟨hi, HB.out.bel.block i hi.2.1⟩
    have HRW : Hid (Bk W g 84 (rd4 A n c i cnt (.slice A1 k c1)).toArray ∧ g < g0 ∧ fN ≤ k ∧ W.ownsRow w0.heap.size 47 18 (.slice A1 k c1) k (SS.flatMap (·.1)) ∧ Trs W (Gw w0.heap.size g (.slice A1 k c1) w) SS ∧ SS.length = k ∧ ∀ i, (Value.slice A1 k c1).ownBlock = some i → ¬ i = g0) := Lib.hid (by
      have h2 := HB.out.lo (g0, 144, tc p (.slice none 0 0) tk) (by simp); have h3 := HRB.out.lt; refine ⟨HRB.out.below HB.out.bel HRB.out.lt, Nat.lt_of_lt_of_le h3 h2, HFK.out, own18 hSo HB.out.bel, hSS.move hmv, hSl, fun i hi e => ?_⟩; have h4 := (hSo.lt i hi).2; subst e
      exact absurd h4 (Nat.not_lt.2 h2))
    have hbase := bx_base HB.out HW.out HR.out.le HRB.out; obtain ⟨W0, hW0⟩ : ∃ W0, W0 = W := ⟨_, rfl⟩
    rw [← hW0] at HRW HT0 hbase; have HBS := Lib.hid hbase
    have HGW : Hid (w0.heap.size ≤ w.heap.size ∧ w.heap.size ≤ g0 ∧ w.heap.size ≤ W0.heap.size ∧ w0.heap.size ≤ g0) := Lib.hid (by
      have h2 := HB.out.lo (g0, 144, tc p (.slice none 0 0) tk) (by simp); have h3 := HW.out.size; have h4 := HB.out.bel.size; rw [← hW0] at h4; dsimp only at h2
      exact ⟨h3, h2, h4, by omega⟩)
    subst hW0; clear hSS hSo hmv hbase HB
    refine wp_region_phases (S := (S7 W0 g0 p tk (k - fN) ((SS.drop fN).flatMap (·.1)))) (E := (fun _ _ => True)) [2, 9, 12] [(0, Is (.pointer (some ⟨g, 0, none⟩))), (3, Is (.pointer (some ⟨g0, 0, none⟩))), (4, Is (.pointer (some ⟨g1, 0, none⟩))), (6, Is (.int .i64 fN))] [(29, Is (.pointer (some ⟨g0, 0, none⟩))), (30, Is (.pointer (some ⟨g0, 17, none⟩))), (32, Is (.pointer (some ⟨g, 0, none⟩))), (33, Is (.pointer (some ⟨g, 0, none⟩))), (34, Is (.pointer (some ⟨g, 3, none⟩))), (35, Is (.slice A1 k c1)), (36, Is (.int .i64 fN)), (37, Is (.slice (advE A1 c1 fN) (k - fN) (c1 - fN))), (39, Is (.pointer (some ⟨g0, 0, none⟩))), (40, Is (.pointer (some ⟨g0, 17, none⟩)))]
      [.op [3] none, .op [29] none, .phase 0 [30] [], .op [0] none, .op [32] none, .op [33] none, .op [34] none, .op [6] none, .op [35, 36] none, .phase 1 [37] [(0, 31)], .op [3] none, .op [39] none, .phase 2 [40] [(1, 38)]] (by as_aux_lemma => kernel_rfl) ?_ ?_ ?_ ?_ ?_ ⟨stable_is _ _, stable_is _ _, stable_is _ _, stable_is _ _, stable_is _ _, stable_is _ _, stable_is _ _, stable_is _ _, stable_is _ _, stable_is _ _, stable_is _ _, stable_is _ _, stable_is _ _, stable_is _ _, trivial⟩ ?_ ⟨(Keep.refl _ _).drew, HT0.out⟩ ?_ ?_
    · as_aux_lemma => kernel_rfl
    · as_aux_lemma => kernel_rfl
    · as_aux_lemma => kernel_rfl
    · as_aux_lemma => kernel_rfl
    · as_aux_lemma => kernel_rfl
    · exact ⟨rfl, rfl, rfl, rfl, trivial⟩
    · refine ⟨?_, ?_, ?_, ?_, ?_, ?_, ?_, ?_, ?_, ?_, ?_, ?_, ?_, trivial⟩
      · as_aux_lemma => intro vals a W hS hL; have e3 : a.tmps.getD 3 undef = .pointer (some ⟨g0, 0, none⟩) := hL.1; clear hL; go_simp; exact ⟨dstY (by rfl), hS, trivial⟩
      · as_aux_lemma => intro vals a W hS hL; have e29 : a.tmps.getD 29 undef = .pointer (some ⟨g0, 0, none⟩) := hL.1; clear hL; go_simp; exact ⟨dstY (by rfl), hS, trivial⟩
      · as_aux_lemma =>
          intro a W vals hv hS hL hp; have e30 : a.tmps.getD 30 undef = .pointer (some ⟨g0, 17, none⟩) := hL.1; clear hL
          match vals, hv, hS with
          | [], _, hS =>
            have f17 : W.cell? ⟨g0, 17, none⟩ = some (.slice none 0 0) := hS.2.cell 17; go_simp; exact ⟨⟨rfl, hS⟩, trivial, trivial⟩
      · as_aux_lemma => intro vals a W hS hL; have e0 : a.tmps.getD 0 undef = .pointer (some ⟨g, 0, none⟩) := hL.1; clear hL; go_simp; exact ⟨dstY (by rfl), hS, trivial⟩
      · as_aux_lemma => intro vals a W hS hL; have e32 : a.tmps.getD 32 undef = .pointer (some ⟨g, 0, none⟩) := hL.1; clear hL; go_simp; exact ⟨dstY (by rfl), hS, trivial⟩
      · as_aux_lemma => intro vals a W hS hL; have e33 : a.tmps.getD 33 undef = .pointer (some ⟨g, 0, none⟩) := hL.1; clear hL; go_simp; exact ⟨dstY (by rfl), hS, trivial⟩
      · as_aux_lemma => intro vals a W hS hL; have e34 : a.tmps.getD 34 undef = .pointer (some ⟨g, 3, none⟩) := hL.1; clear hL; have f3 : W.cell? ⟨g, 3, none⟩ = some (.slice A1 k c1) := ((S7.keep hS).bk HRW.out.1 (by have := HRW.out.2.1; omega)).cell 3; go_simp; exact ⟨dstY (by rfl), hS, trivial⟩
      · as_aux_lemma => intro vals a W hS hL; have e6 : a.tmps.getD 6 undef = .int .i64 fN := hL.1; clear hL; go_simp; exact ⟨dstY (by rfl), hS, trivial⟩
      · as_aux_lemma => intro vals a W hS hL; have e35 : a.tmps.getD 35 undef = .slice A1 k c1 := hL.1; have e36 : a.tmps.getD 36 undef = .int .i64 fN := hL.2.1; clear hL; refine lands_lo (.tmp 35) (.tmp 36) rfl e35 e36 (run_loE W A1 k c1 fN HRW.out.2.2.1) ?_; exact ⟨dstY (by rfl), hS, trivial⟩
      · as_aux_lemma =>
          intro a W vals hv hS hL hp; have e37 : a.tmps.getD 37 undef = .slice (advE A1 c1 fN) (k - fN) (c1 - fN) := hL.1; clear hL
          match vals, hv, hS, hp with
          | [u], _, hS, hp =>
            obtain ⟨rfl, hK, hb⟩ := hS; have e31 := (Option.some.inj (hp.1 (by simp))).symm; have hoW := hK.own HRW.out.2.2.2.1 fun i hi e => HRW.out.2.2.2.2.2.2 i hi e; have hrd := rd_advE hoW HRW.out.2.2.2.2.1.len HRW.out.2.2.2.2.2.1 HRW.out.2.2.1; refine lands_app exprRow (.tmp 31) (.tmp 37) rfl e31 e37 (World.ownsRow_nil _ _ _ _) hrd (Trs.one (F := Gw w0.heap.size g (.slice A1 k c1) w) (W := W0) fun x hx => HRW.out.2.2.2.2.1 x (List.mem_of_mem_drop hx)) (by have := HKB.out; unfold maxLen; omega) (by have := HKB.out; omega) (Nat.le_refl _) fun v2_ w2_ o2_ g2_ => ?_; have hK2 : Keep (fun i => i = g0) W w2_ := Keep.of_grew g2_ fun i hi => by cases hi
            refine ⟨⟨hK.trans hK2 fun _ _ h => h, hK2.bk_same hb g2_, ?_⟩, trivial, trivial⟩; have := own_mono o2_ hK.size
            simpa using this
      · as_aux_lemma => intro vals a W hS hL; have e3 : a.tmps.getD 3 undef = .pointer (some ⟨g0, 0, none⟩) := hL.1; clear hL; go_simp; exact ⟨dstY (by rfl), hS, trivial⟩
      · as_aux_lemma => intro vals a W hS hL; have e39 : a.tmps.getD 39 undef = .pointer (some ⟨g0, 0, none⟩) := hL.1; clear hL; go_simp; exact ⟨dstY (by rfl), hS, trivial⟩
      · as_aux_lemma =>
          intro a W vals hv hS hL hp; have e40 : a.tmps.getD 40 undef = .pointer (some ⟨g0, 17, none⟩) := hL.1; clear hL
          match vals, hv, hS, hp with
          | [u0, u], _, hS, hp =>
            obtain ⟨hK, hb, ho⟩ := hS; have e38 := (Option.some.inj (hp.1 (by simp))).symm; have hne : ∀ i, u.ownBlock = some i → ¬ i = g0 := fun i hi e => by subst e; exact own_ne ho hb (by decide) hi
            obtain ⟨A2, c2, rfl, -⟩ := own_form ho; have f17 : W.cell? ⟨g0, 17, none⟩ = some (.slice none 0 0) := hb.cell 17; have z17 := hb.frozen 17; have hk1 : Keep (fun i => i = g0) W (W.setCell ⟨g0, 17, none⟩ (.slice A2 (k - fN) c2)) := (Keep.refl (fun i => i = g0) W).setCell (p := ⟨g0, 17, none⟩) (fun _ => rfl) _; have hF : S7 W0 g0 p tk (k - fN) ((SS.drop fN).flatMap (·.1)) [u0, .slice A2 (k - fN) c2, undef] (W.setCell ⟨g0, 17, none⟩ (.slice A2 (k - fN) c2)) := ⟨hK.trans hk1 fun _ _ h => h, sf_bk (k := 17) hb, hk1.own ho hne⟩
            rw [Array.getD_eq_getD_getElem?] at e38; clear hK hb ho hk1 hne; go_simp; exact ⟨hF, trivial, trivial⟩
    · intro a W vals hd hsz hT hF hv hP hS
      obtain ⟨x0, u, x2, rfl⟩ : ∃ x0 u x2, vals = [x0, u, x2] := by
        match vals, hv with
        | [x, y, z], _ => exact ⟨x, y, z, rfl⟩
      have e0 : a.tmps.getD 0 undef = .pointer (some ⟨g, 0, none⟩) := hT 0 (by simp); have e3 : a.tmps.getD 3 undef = .pointer (some ⟨g0, 0, none⟩) := hT 3 (by simp); have e4 : a.tmps.getD 4 undef = .pointer (some ⟨g1, 0, none⟩) := hT 4 (by simp); have e6 : a.tmps.getD 6 undef = .int .i64 fN := hT 6 (by simp); clear hT hF hP; rw [act_lit 65 a hd hsz]; simp only [List.range, List.range.loop, List.map, e0, e3, e4, e6]; clear e0 e3 e4 e6 hsz hd; generalize a.tmps.getD 1 undef = y1, a.tmps.getD 2 undef = y2, a.tmps.getD 5 undef = y5, a.tmps.getD 7 undef = y7, a.tmps.getD 8 undef = y8, a.tmps.getD 9 undef = y9, a.tmps.getD 10 undef = y10, a.tmps.getD 11 undef = y11, a.tmps.getD 12 undef = y12, a.tmps.getD 13 undef = y13, a.tmps.getD 14 undef = y14, a.tmps.getD 15 undef = y15, a.tmps.getD 16 undef = y16, a.tmps.getD 17 undef = y17, a.tmps.getD 18 undef = y18, a.tmps.getD 19 undef = y19, a.tmps.getD 20 undef = y20, a.tmps.getD 21 undef = y21, a.tmps.getD 22 undef = y22, a.tmps.getD 23 undef = y23, a.tmps.getD 24 undef = y24, a.tmps.getD 25 undef = y25, a.tmps.getD 26 undef = y26, a.tmps.getD 27 undef = y27, a.tmps.getD 28 undef = y28, a.tmps.getD 29 undef = y29, a.tmps.getD 30 undef = y30, a.tmps.getD 31 undef = y31, a.tmps.getD 32 undef = y32, a.tmps.getD 33 undef = y33, a.tmps.getD 34 undef = y34, a.tmps.getD 35 undef = y35, a.tmps.getD 36 undef = y36, a.tmps.getD 37 undef = y37, a.tmps.getD 38 undef = y38, a.tmps.getD 39 undef = y39, a.tmps.getD 40 undef = y40, a.tmps.getD 41 undef = y41, a.tmps.getD 42 undef = y42, a.tmps.getD 43 undef = y43, a.tmps.getD 44 undef = y44, a.tmps.getD 45 undef = y45, a.tmps.getD 46 undef = y46, a.tmps.getD 47 undef = y47, a.tmps.getD 48 undef = y48, a.tmps.getD 49 undef = y49, a.tmps.getD 50 undef = y50, a.tmps.getD 51 undef = y51, a.tmps.getD 52 undef = y52, a.tmps.getD 53 undef = y53, a.tmps.getD 54 undef = y54, a.tmps.getD 55 undef = y55, a.tmps.getD 56 undef = y56, a.tmps.getD 57 undef = y57, a.tmps.getD 58 undef = y58, a.tmps.getD 59 undef = y59, a.tmps.getD 60 undef = y60, a.tmps.getD 61 undef = y61, a.tmps.getD 62 undef = y62, a.tmps.getD 63 undef = y63, a.tmps.getD 64 undef = y64; obtain ⟨hK7, hb7, ho7⟩ := hS; obtain ⟨W1, hW1⟩ : ∃ W1, W1 = W := ⟨_, rfl⟩
      rw [← hW1] at hK7 hb7 ho7; subst hW1
      have hmv1 : Move W0 (Gw w0.heap.size g (.slice A1 k c1) w) W1 (Gw w0.heap.size g (.slice A1 k c1) W1) := fun i hi => by
        have := HGW.out; exact ⟨⟨hi.1, by have := hK7.size; have := hi.2.1; omega, hi.2.2⟩, hK7.block i (by have := hi.2.1; omega) fun e => by have := hi.2.1; omega⟩
      have hT1 : Trs W1 (Gw w0.heap.size g (.slice A1 k c1) W1) SS := HRW.out.2.2.2.2.1.move hmv1; have ho1 := hK7.own HRW.out.2.2.2.1 fun i hi e => HRW.out.2.2.2.2.2.2 i hi e; have hb1 := hK7.bk HRW.out.1 (by have := HRW.out.2.1; omega)
      obtain ⟨A2, c2, rfl, hc2, hr2⟩ := trs_row (F := Gw w0.heap.size g (.slice A1 k c1) W1) (S := SS.drop fN) (fun x hx => hT1 x (List.mem_of_mem_drop hx)) ho7 (by rw [List.length_drop, HRW.out.2.2.2.2.2.1]) (fun i hi => by
        obtain ⟨h1, h2⟩ := ho7.lt i hi; have h3 := HGW.out; have h4 := HRW.out.2.1; have h5 := HT0.out.lt; refine ⟨by omega, h2, ?_⟩; rintro (e | e)
        · omega
        · have := (HRW.out.2.2.2.1.lt i e).2
          omega)
      rw [List.map_drop, hSm] at hr2; have HB : Hid (BX w0 [(g1, 82, cu A n c nx), (g0, 144, tc p (.slice A2 (k - fN) c2) tk), (g, 84, rd4 A n c i cnt (.slice A1 k c1))] W1) := Lib.hid (bx_turn (i := 1) (g := g0) HBS.out rfl hb7 hK7 (fun b hb hne e => hne e) (fun j hj e => by have := HGW.out; omega))
      have HQW : Hid (Bk W1 g0 144 (tc p (.slice A2 (k - fN) c2) tk).toArray ∧ ¬ ApT g (.slice A1 k c1) g0 ∧ fN ≤ k ∧ Bk W1 g 84 (rd4 A n c i cnt (.slice A1 k c1)).toArray ∧ W1.ownsRow w0.heap.size 47 18 (.slice A1 k c1) k (SS.flatMap (·.1)) ∧ w0.heap.size ≤ W1.heap.size ∧ k ≤ c1) := Lib.hid ⟨hb7, by
        rintro (e | e)
        · have := HRW.out.2.1; omega
        · exact HRW.out.2.2.2.2.2.2 g0 e rfl, HRW.out.2.2.1, hb1, ho1, by have := HGW.out; have := hK7.size; omega, by
        obtain ⟨_, _, e, h, _⟩ := own_form ho1; injection e with _ _ e
        omega⟩
      have HTR := Lib.hid (And.intro hT1 (And.intro hc2 hr2)); clear hK7 hb7 ho7 hmv1 hT1 ho1 hb1 hc2 hr2 HBS HT0 HRW
      repeat' (first | go_values | go_skip | go_guarded | go_step | go_upon)
      refine wp_region_phases (S := (S8 W1 w0.heap.size g (fun v => rd4 A n c i cnt v) k (fN + 1) (SS.flatMap (·.1)) ((SS.take fN).flatMap (·.1) ++ ec p (.slice A2 (k - fN) c2)) (.slice A1 fN c1) (.slice A1 k c1))) (E := (fun W W' => Keep (ApT g (.slice A1 k c1)) W W')) [4, 6, 10, 13] [(0, Is (.pointer (some ⟨g, 0, none⟩))), (3, Is (.pointer (some ⟨g0, 0, none⟩))), (4, Is (.pointer (some ⟨g1, 0, none⟩))), (6, Is (.int .i64 fN))] [(41, Is (.pointer (some ⟨g, 0, none⟩))), (42, Is (.pointer (some ⟨g, 0, none⟩))), (43, Is (.pointer (some ⟨g, 0, none⟩))), (44, Is (.pointer (some ⟨g, 3, none⟩))), (46, Is (.int .i64 fN)), (48, Is (.pointer (some ⟨g0, 0, none⟩))), (49, Is (.agg (ec p (.slice A2 (k - fN) c2)).toArray)), (50, fun u W => ∃ h, u = .slice (some ⟨h, 0, none⟩) 1 1 ∧ W1.heap.size ≤ h ∧ Bk W h 47 (ec p (.slice A2 (k - fN) c2)).toArray), (52, Is (.pointer (some ⟨g, 0, none⟩))), (53, Is (.pointer (some ⟨g, 3, none⟩)))]
        [.op [0] none, .op [0] none, .op [42] none, .op [43] none, .phase 0 [44] [], .op [6] none, .phase 1 [46] [(0, 45)], .op [3] none, .op [48] none, .op [49] none, .phase 2 [50] [(1, 47)], .op [41] none, .op [52] none, .phase 3 [53] [(2, 51)]] (by as_aux_lemma => kernel_rfl) ?_ ?_ ?_ ?_ ?_ ⟨stable_is _ _, stable_is _ _, stable_is _ _, stable_is _ _, stable_is _ _, stable_is _ _, stable_is _ _, stable_is _ _, stable_is _ _, stable_is _ _, stable_is _ _, stab_one HQW.out.2.2.2.1.lt (fun i hi => (HQW.out.2.2.2.2.1.lt i hi).2), stable_is _ _, stable_is _ _, trivial⟩ ?_ ⟨(Keep.refl _ _).drew, HQW.out.2.2.2.1, HQW.out.2.2.2.2.1⟩ ?_ ?_
      · as_aux_lemma => kernel_rfl
      · as_aux_lemma => kernel_rfl
      · as_aux_lemma => kernel_rfl
      · as_aux_lemma => kernel_rfl
      · as_aux_lemma => kernel_rfl
      · exact ⟨rfl, rfl, rfl, rfl, trivial⟩
      · refine ⟨?_, ?_, ?_, ?_, ?_, ?_, ?_, ?_, ?_, ?_, ?_, ?_, ?_, ?_, trivial⟩
        · as_aux_lemma => intro vals a W hS hL; have e0 : a.tmps.getD 0 undef = .pointer (some ⟨g, 0, none⟩) := hL.1; clear hL; go_simp; exact ⟨dstY (by rfl), hS, Keep.refl _ _⟩
        · as_aux_lemma => intro vals a W hS hL; have e0 : a.tmps.getD 0 undef = .pointer (some ⟨g, 0, none⟩) := hL.1; clear hL; go_simp; exact ⟨dstY (by rfl), hS, Keep.refl _ _⟩
        · as_aux_lemma => intro vals a W hS hL; have e42 : a.tmps.getD 42 undef = .pointer (some ⟨g, 0, none⟩) := hL.1; clear hL; go_simp; exact ⟨dstY (by rfl), hS, Keep.refl _ _⟩
        · as_aux_lemma => intro vals a W hS hL; have e43 : a.tmps.getD 43 undef = .pointer (some ⟨g, 0, none⟩) := hL.1; clear hL; go_simp; exact ⟨dstY (by rfl), hS, Keep.refl _ _⟩
        · as_aux_lemma =>
            intro a W vals hv hS hL hp; have e44 : a.tmps.getD 44 undef = .pointer (some ⟨g, 3, none⟩) := hL.1; clear hL
            match vals, hv, hS with
            | [], _, hS =>
              have f3 : W.cell? ⟨g, 3, none⟩ = some (.slice A1 k c1) := hS.2.1.cell 3; go_simp; exact ⟨⟨rfl, hS⟩, trivial, Keep.refl _ _⟩
        · as_aux_lemma => intro vals a W hS hL; have e6 : a.tmps.getD 6 undef = .int .i64 fN := hL.1; clear hL; go_simp; exact ⟨dstY (by rfl), hS, Keep.refl _ _⟩
        · as_aux_lemma =>
            intro a W vals hv hS hL hp; have e46 : a.tmps.getD 46 undef = .int .i64 fN := hL.1; clear hL
            match vals, hv, hS, hp with
            | [u], _, hS, hp =>
              obtain ⟨rfl, hS⟩ := hS; have e45 := (Option.some.inj (hp.1 (by simp))).symm; refine lands_hiB (.tmp 45) (.tmp 46) rfl e45 e46 (run_hiE W A1 k c1 fN (Nat.le_trans HQW.out.2.2.1 HQW.out.2.2.2.2.2.2)) ?_; exact ⟨⟨rfl, hS⟩, trivial, Keep.refl _ _⟩
        · as_aux_lemma => intro vals a W hS hL; have e3 : a.tmps.getD 3 undef = .pointer (some ⟨g0, 0, none⟩) := hL.1; clear hL; go_simp; exact ⟨dstY (by rfl), hS, Keep.refl _ _⟩
        · as_aux_lemma =>
            intro vals a W hS hL; have e48 : a.tmps.getD 48 undef = .pointer (some ⟨g0, 0, none⟩) := hL.1; clear hL; have hb0 : Bk W g0 144 (tc p (.slice A2 (k - fN) c2) tk).toArray := (S8.keep hS).bk HQW.out.1 HQW.out.2.1; refine lands_vB (run_ldmB (cs := ec p (.slice A2 (k - fN) c2)) (q := ⟨g0, 0, none⟩) rtExpr (fun j u hj => ?_) (.tmp 48) rfl e48) ?_
            · rw [addr_zero, hb0.cell]; exact tc_sub hj
            · exact ⟨dstY (by rfl), hS, Keep.refl _ _⟩
        · as_aux_lemma => intro vals a W hS hL; have e49 : a.tmps.getD 49 undef = .agg (ec p (.slice A2 (k - fN) c2)).toArray := hL.1; clear hL; refine lands_vB (run_bs (.tmp 49) rfl e49) ?_; refine ⟨⟨fun d hd => by injection hd with hd; subst hd; exact ⟨W.heap.size, rfl, (S8.keep hS).size, Bk.new _ _ _⟩, fun h => by cases h⟩, S8.below hS (bel0 _ _), ?_⟩; exact Keep.of_below (bel0 _ _) fun i hi hh => by omega
        · as_aux_lemma =>
            intro a W vals hv hS hL hp; have e50 := hL.1; clear hL; obtain ⟨h, e50, hh, hkx⟩ := e50
            match vals, hv, hS, hp with
            | [u0, u], _, hS, hp =>
              obtain ⟨rfl, hK, hb, ho⟩ := hS; have e47 := (Option.some.inj (hp.1 (by simp))).symm; have hoc := own_cutk ho HQW.out.2.2.1; have hsz := hK.size; refine lands_app exprRow (.tmp 47) (.tmp 50) rfl e47 e50 hoc (bk_rd (k := 18) (n := 1) hkx rfl) (ec_one p) (by have := HKB.out; have := HQW.out.2.2.1; unfold maxLen; omega) (by have := HKB.out; have := HQW.out.2.2.1; omega) (Nat.le_trans HQW.out.2.2.2.2.2.1 hsz) fun v2_ w2_ o2_ g2_ => ?_; have hA := S8.appended (x := u0) (y := .slice A1 fN c1) ⟨rfl, hK, hb, ho⟩ cut_block hoc g2_ (by rw [flat_take HSL.out] at o2_; exact o2_); exact ⟨hA.1, trivial, hA.2⟩
        · as_aux_lemma => intro vals a W hS hL; have e41 : a.tmps.getD 41 undef = .pointer (some ⟨g, 0, none⟩) := hL.1; clear hL; go_simp; exact ⟨dstY (by rfl), hS, Keep.refl _ _⟩
        · as_aux_lemma => intro vals a W hS hL; have e52 : a.tmps.getD 52 undef = .pointer (some ⟨g, 0, none⟩) := hL.1; clear hL; go_simp; exact ⟨dstY (by rfl), hS, Keep.refl _ _⟩
        · as_aux_lemma =>
            intro a W vals hv hS hL hp; have e53 : a.tmps.getD 53 undef = .pointer (some ⟨g, 3, none⟩) := hL.1; clear hL
            match vals, hv, hS, hp with
            | [u0, u1, u], _, hS, hp =>
              have e51 := (Option.some.inj (hp.1 (by simp))).symm; have hst := S8.stored (z := undef) (i := 3) hS rfl; obtain ⟨hK, hb, ho, -⟩ := hS; obtain ⟨A3, c3, rfl, -⟩ := own_form ho; have f3 : W.cell? ⟨g, 3, none⟩ = some (.slice A1 k c1) := hb.cell 3; have z3 := hb.frozen 3; rw [Array.getD_eq_getD_getElem?] at e51; clear hK hb ho; go_simp; exact ⟨hst.1, trivial, hst.2⟩
      · intro a W vals hd hsz hT hF hv hP hS
        obtain ⟨x0, x1, u, x2, rfl⟩ : ∃ x0 x1 u x2, vals = [x0, x1, u, x2] := by
          match vals, hv with
          | [x, y, z, q], _ => exact ⟨x, y, z, q, rfl⟩
        have e0 : a.tmps.getD 0 undef = .pointer (some ⟨g, 0, none⟩) := hT 0 (by simp); have e3 : a.tmps.getD 3 undef = .pointer (some ⟨g0, 0, none⟩) := hT 3 (by simp); have e4 : a.tmps.getD 4 undef = .pointer (some ⟨g1, 0, none⟩) := hT 4 (by simp); clear hT hF hP; rw [act_lit 65 a hd hsz]; simp only [List.range, List.range.loop, List.map, e0, e3, e4]; clear e0 e3 e4 hsz hd; generalize a.tmps.getD 1 undef = y1, a.tmps.getD 2 undef = y2, a.tmps.getD 5 undef = y5, a.tmps.getD 6 undef = y6, a.tmps.getD 7 undef = y7, a.tmps.getD 8 undef = y8, a.tmps.getD 9 undef = y9, a.tmps.getD 10 undef = y10, a.tmps.getD 11 undef = y11, a.tmps.getD 12 undef = y12, a.tmps.getD 13 undef = y13, a.tmps.getD 14 undef = y14, a.tmps.getD 15 undef = y15, a.tmps.getD 16 undef = y16, a.tmps.getD 17 undef = y17, a.tmps.getD 18 undef = y18, a.tmps.getD 19 undef = y19, a.tmps.getD 20 undef = y20, a.tmps.getD 21 undef = y21, a.tmps.getD 22 undef = y22, a.tmps.getD 23 undef = y23, a.tmps.getD 24 undef = y24, a.tmps.getD 25 undef = y25, a.tmps.getD 26 undef = y26, a.tmps.getD 27 undef = y27, a.tmps.getD 28 undef = y28, a.tmps.getD 29 undef = y29, a.tmps.getD 30 undef = y30, a.tmps.getD 31 undef = y31, a.tmps.getD 32 undef = y32, a.tmps.getD 33 undef = y33, a.tmps.getD 34 undef = y34, a.tmps.getD 35 undef = y35, a.tmps.getD 36 undef = y36, a.tmps.getD 37 undef = y37, a.tmps.getD 38 undef = y38, a.tmps.getD 39 undef = y39, a.tmps.getD 40 undef = y40, a.tmps.getD 41 undef = y41, a.tmps.getD 42 undef = y42, a.tmps.getD 43 undef = y43, a.tmps.getD 44 undef = y44, a.tmps.getD 45 undef = y45, a.tmps.getD 46 undef = y46, a.tmps.getD 47 undef = y47, a.tmps.getD 48 undef = y48, a.tmps.getD 49 undef = y49, a.tmps.getD 50 undef = y50, a.tmps.getD 51 undef = y51, a.tmps.getD 52 undef = y52, a.tmps.getD 53 undef = y53, a.tmps.getD 54 undef = y54, a.tmps.getD 55 undef = y55, a.tmps.getD 56 undef = y56, a.tmps.getD 57 undef = y57, a.tmps.getD 58 undef = y58, a.tmps.getD 59 undef = y59, a.tmps.getD 60 undef = y60, a.tmps.getD 61 undef = y61, a.tmps.getD 62 undef = y62, a.tmps.getD 63 undef = y63, a.tmps.getD 64 undef = y64; obtain ⟨hK8, hb8, ho8, hl8⟩ := hS; obtain ⟨A3, c3, rfl, -⟩ := own_form ho8; have hne8 : (Value.slice A3 (fN + 1) c3).ownBlock ≠ some g := own_ne ho8 hb8 (by decide); obtain ⟨S', hS1, hS2, hS3⟩ := stack_next (p := p) HTR.out.1 hSm (by rw [← HKL.out]; exact HQW.out.2.2.1) hK8 hl8 HTR.out.2.1 HTR.out.2.2 ho8; have HX : Hid (StkX W w0.heap.size g (.slice A3 (fN + 1) c3) (ops.take fN ++ [.mk p (ops.drop fN)])) := Lib.hid ⟨hne8, S', hS1, hS2, hS3⟩
        have hB8 : BX w0 [(g1, 82, cu A n c nx), (g0, 144, tc p (.slice A2 (k - fN) c2) tk), (g, 84, rd4 A n c i cnt (.slice A3 (fN + 1) c3))] W := bx_turn (i := 2) (g := g) HB.out rfl hb8 hK8 (fun b hb hne e => by
          rcases e with e | e
          · exact hne e
          · have hbk := HB.out.bk b hb; simp only [List.mem_cons, List.not_mem_nil, or_false] at hb
            rcases hb with rfl | rfl | rfl
            · exact own_ne HQW.out.2.2.2.2.1 hbk (show (47 : TypeId) ≠ 82 from by decide) e
            · exact own_ne HQW.out.2.2.2.2.1 hbk (show (47 : TypeId) ≠ 144 from by decide) e
            · exact hne rfl) (fun j hj e => by
          rcases e with e | e
          · have := HR.out.le; omega
          · have := (HQW.out.2.2.2.2.1.lt j e).1; omega)
        clear hK8 hb8 ho8 hl8 hne8 hS1 hS2 hS3 HB; have HB := Lib.hid hB8; clear hB8 HTR HQW
        repeat' (first | ((with_reducible show Oper.wp _ _ _ _ _ _); (first | (with_reducible refine is_ld 82 _ rfl ?_; refine ld_cu 0 HB rfl _ rfl rfl ?_; go_simp) | with_reducible refine stop_st _ _ rfl ?_)) | go_values | go_skip | go_guarded | go_step | go_upon)
        refine Lib.hid ?_; refine ss_gk (i := 2) (vs := cu A n c nx) (off := 0) rtCur cu_one HB rfl (Nat.le_of_ble_eq_true rfl) _ _ rfl rfl rfl (ds := rd4 A n c nx cnt (.slice A3 (fN + 1) c3)) rfl ?_; clear HB; intro W2 HB hk2; have HX := Lib.hid (HX.out.keep hk2); clear hk2; dsimp only [List.set] at HB; have hcn := HKB.out.2; go_simp
        repeat' (first | ((with_reducible show Oper.wp _ _ _ _ _ _); (first | (with_reducible refine is_ld 3 _ rfl ?_; refine lf_int 2 HB rfl _ rfl rfl rfl ?_; go_simp) | with_reducible refine stop_st _ _ rfl ?_)) | go_values | go_skip | go_guarded | go_step | go_upon)
        refine Lib.hid ?_; refine sf_intk (i := 2) (k := 2) HB rfl _ _ rfl rfl rfl rfl (ds := rd4 A n c nx ((cnt : Int) + 1) (.slice A3 (fN + 1) c3)) rfl ?_; clear HB; intro W3 HB hk3; have HX := Lib.hid (HX.out.keep hk3); clear hk3 hcn; dsimp only [List.set] at HB; go_simp
        repeat' (first | go_values | go_skip | go_guarded | go_step | go_upon)
        go_ret; refine ⟨_, rfl, HB.out.bel, ?_, HX.out.2, HR.out.le⟩; have := HB.out.get (i := 2) rfl; rw [Int.natCast_add]; exact this
end Go.Proofs.YtlaiocdnddnnaaaGreatDoor
