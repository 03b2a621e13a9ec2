/- ptg.bit, markOfPlace, putRef, putPlace of a Cell, putConst of a Num, put of these and of a Bin, by their contracts. No condition. -/
import Derived.Test.YtlaiocdnddnnaaaGreatDoorDr
import Derived.Test.YtlaiocdnddnnaaaGreatDoorBy
import Derived.Test.YtlaiocdnddnnaaaGreatDoorLast
import Derived.Test.YtlaiocdnddnnaaaGreatDoorApp
import Derived.Test.YtlaiocdnddnnaaaGreatDoorPa12
set_option linter.unusedVariables false
set_option linter.unusedSimpArgs false
namespace Go.Proofs.YtlaiocdnddnnaaaGreatDoor
open Go.RowKit
section
variable {o : Oper} {a : Act} {w W : World} {K : Act → World → Prop} {Q : Exit → Act → World → Prop} {bs : Bxs}
theorem bs_g {e : TypeId} {n : Nat} (H : Hid (BX w bs W)) (cs : List Value) (hr : (execOp a.eval o).run Tryz.prog W = .ok (.value (.slice (some ⟨W.heap.size, 0, none⟩) n n)) (W.alloc (.cells cs.toArray e))) (h : ∀ g W', Hid (BX w ((g, e, cs) :: bs) W') → K (a.put o.dst (.slice (some ⟨g, 0, none⟩) n n)) W') : o.wp Tryz.prog a W K Q := by
  unfold Oper.wp; rw [hr]; exact h _ _ (Lib.hid (H.out.made e cs))
theorem stop_bsu {n : Nat} {ps : Array (Nat × Operand)} {t : TypeId} (ho : o.op = .buildSlice t n ps) (h : Hid (o.wp Tryz.prog a W K Q)) : o.wp Tryz.prog a W K Q := h.out
end
theorem bit_any {w : World} (b : Bool) (k : Int) : Calls Tryz.prog 70 #[.bool b, .int .u8 k] w fun e W => e = .returned (.int .u8 (pbit b k)) ∧ W = w := by
  cases b
  · go_enter Tryz.func70, Tryz.ntmps70; go_wp2; go_ret; exact ⟨rfl, rfl⟩
  · go_enter Tryz.func70, Tryz.ntmps70; go_wp2; go_ret; exact ⟨rfl, rfl⟩
theorem mark_any {w : World} {k : Int} (hk : k = 2 ∨ k = 3 ∨ k = 4 ∨ k = 5) : Calls Tryz.prog 71 #[.int .i64 k] w fun e W => e = .returned (.int .u8 (markP k)) ∧ W = w := by
  rcases hk with rfl | rfl | rfl | rfl
  · go_enter Tryz.func71, Tryz.ntmps71; go_wp2; go_ret; exact ⟨rfl, rfl⟩
  · go_enter Tryz.func71, Tryz.ntmps71; go_wp2; go_ret; exact ⟨rfl, rfl⟩
  · go_enter Tryz.func71, Tryz.ntmps71; go_wp2; go_ret; exact ⟨rfl, rfl⟩
  · go_enter Tryz.func71, Tryz.ntmps71; go_wp2; go_ret; exact ⟨rfl, rfl⟩
def Blt (w W : World) (u : Value) (l : List UInt8) : Prop := ∃ h, u = .slice (some ⟨h, 0, none⟩) l.length l.length ∧ w.heap.size ≤ h ∧ Bk W h 5 (l.map bv).toArray
def P4 (w : World) (g : Nat) (ty : TypeId) (cs : List Value) (l1 l2 l3 : List UInt8) (a b c d : Option Value) (W : World) : Prop :=
  Below w.heap.size w W ∧ (Bk W g ty cs.toArray ∧ ty ≠ 5) ∧ (∀ u, a = some u → b = none → Blt w W u l1) ∧ (∀ u, b = some u → d = none → W.ownsRow w.heap.size 5 1 u l2.length (l2.map bv)) ∧
    (∀ u, c = some u → d = none → Blt w W u l3) ∧ ∀ u, d = some u → W.ownsRow w.heap.size 5 1 u (l2.length + l3.length) ((l2 ++ l3).map bv)
def P4V (w : World) (g : Nat) (ty : TypeId) (cs : List Value) (l1 l2 l3 : List UInt8) : List (Option Value) → World → Prop
  | [a, b, c, d, e], W => P4 w g ty cs l1 l2 l3 a b c d W ∧ ∀ u, e = some u → d = some u
  | _, _ => False
def P2V (w : World) (g : Nat) (ty : TypeId) (cs : List Value) (v : Value) (l2 l3 : List UInt8) : List (Option Value) → World → Prop
  | [c, d, e], W => P4 w g ty cs [] l2 l3 (some undef) (some v) c d W ∧ ∀ u, e = some u → d = some u
  | _, _ => False
section
variable {w W W' : World} {g : Nat} {ty : TypeId} {cs : List Value} {l l1 l2 l3 : List UInt8} {a b c d : Option Value} {u v : Value}
theorem Blt.below (h : Blt w W u l) (hb : Below W.heap.size W W') : Blt w W' u l := by
  obtain ⟨h1, e, h2, h3⟩ := h; exact ⟨h1, e, h2, h3.below hb h3.lt⟩
theorem own1_below {n base : Nat} {x : Value} {zs : List Value} (h : W.ownsRow base 5 1 x n zs) (hb : Below W.heap.size W W') : W'.ownsRow base 5 1 x n zs :=
  (Keep.of_below (S := fun i => W.heap.size ≤ i) hb fun i _ h => h).own h fun i hi hh => by have := (h.lt i hi).2; omega
theorem P4.below (h : P4 w g ty cs l1 l2 l3 a b c d W) (hb : Below W.heap.size W W') : P4 w g ty cs l1 l2 l3 a b c d W' := by
  obtain ⟨h0, h1, h2, h3, h4, h5⟩ := h; exact ⟨h0.trans (hb.mono h0.size), ⟨h1.1.below hb h1.1.lt, h1.2⟩, fun u e1 e2 => (h2 u e1 e2).below hb, fun u e1 e2 => own1_below (h3 u e1 e2) hb, fun u e1 e2 => (h4 u e1 e2).below hb, fun u e => own1_below (h5 u e) hb⟩
theorem blt_new (l : List UInt8) (hw : w.heap.size ≤ W.heap.size) : Blt w (W.alloc (.cells (l.map bv).toArray 5)) (.slice (some ⟨W.heap.size, 0, none⟩) l.length l.length) l := ⟨_, rfl, hw, Bk.new _ _ _⟩
theorem P4.first (h : P4 w g ty cs l1 l2 l3 none b c d W) : P4 w g ty cs l1 l2 l3 (some (.slice (some ⟨W.heap.size, 0, none⟩) l1.length l1.length)) b c d (W.alloc (.cells (l1.map bv).toArray 5)) := by
  have hz := h.1.size; obtain ⟨h0, h1, h2, h3, h4, h5⟩ := h.below (bel0 W (.cells (l1.map bv).toArray 5)); exact ⟨h0, h1, fun u e1 e2 => by injection e1 with e1; subst e1; exact blt_new l1 hz, h3, h4, h5⟩
theorem P4.third (h : P4 w g ty cs l1 l2 l3 a b none d W) : P4 w g ty cs l1 l2 l3 a b (some (.slice (some ⟨W.heap.size, 0, none⟩) l3.length l3.length)) d (W.alloc (.cells (l3.map bv).toArray 5)) := by
  have hz := h.1.size; obtain ⟨h0, h1, h2, h3, h4, h5⟩ := h.below (bel0 W (.cells (l3.map bv).toArray 5)); exact ⟨h0, h1, h2, h3, fun u e1 e2 => by injection e1 with e1; subst e1; exact blt_new l3 hz, h5⟩
theorem P4.second (h : P4 w g ty cs l1 l2 l3 a none c d W) (hb : Below W.heap.size W W') (ho : W'.ownsRow W.heap.size 5 1 v l2.length (l2.map bv)) : P4 w g ty cs l1 l2 l3 a (some v) c d W' := by
  have hz := h.1.size; obtain ⟨h0, h1, h2, h3, h4, h5⟩ := h.below hb; exact ⟨h0, h1, fun u e1 e2 => (by cases e2), fun u e1 e2 => by injection e1 with e1; subst e1; exact own_mono ho hz, h4, h5⟩
theorem P4.fourth {v0 : Value} (h : P4 w g ty cs l1 l2 l3 a (some v0) c none W) (hg : Grew W W' v0 u) (ho : W'.ownsRow w.heap.size 5 1 u (l2.length + l3.length) (l2.map bv ++ l3.map bv)) : P4 w g ty cs l1 l2 l3 a (some v0) c (some u) W' := by
  obtain ⟨h0, h1, h2, h3, h4, h5⟩ := h; have ho0 := h3 v0 rfl rfl; refine ⟨h0.trans (hg.below ho0 h0.size), ⟨hg.bk ho0 h1.1 (Ne.symm h1.2), h1.2⟩, fun u e1 e2 => (by cases e2), fun u e1 e2 => (by cases e2), fun u e1 e2 => (by cases e2), fun u' e => ?_⟩; injection e with e; subst e; rw [List.map_append]; exact ho
theorem lands_app8 {P : Program} {S : World → Prop} {F : World → World → Prop} {R : Value → World → Prop} {o : Oper} {x : Act} (E : ElemRow P 35 5 (.int .u8 0) 1 1) (p q : Operand) (ho : o.op = .call { callee := .builtin .append, args := #[p, q], argTypes := #[35, 35] })
    {v0 y : Value} (hp : x.eval p = v0) (hq : x.eval q = y) (hS : P4 w g ty cs l1 l2 l3 a (some v0) (some y) none W) (hn : l2.length + l3.length ≤ 1000)
    (h : ∀ u W', P4 w g ty cs l1 l2 l3 a (some v0) (some y) (some u) W' → R u W' ∧ S W' ∧ F W W') : Lands P S F R W ((execOp x.eval o).run P W) := by
  obtain ⟨hh, e, h1, hk⟩ := hS.2.2.2.2.1 y rfl rfl; subst e; have ho0 := hS.2.2.2.1 v0 rfl rfl; refine lands_app E p q ho hp hq ho0 (bk_rd (k := 1) (n := l3.length) hk (by simp)) (bv_one l3) (by unfold maxLen; omega) (by omega) hS.1.size fun u W' o2 g2 => h u W' (hS.fourth g2 o2)
end
set_option maxRecDepth 20000 in
set_option maxHeartbeats 4000000 in
theorem putNum_at {w : World} (m sc : Int) (t : ByteArray) (b : Bool) (e : Int) : Calls Tryz.prog 41 #[.agg #[.int .i64 1, .int .i64 m, .int .i64 sc, .string t, .bool b, .int .i64 e]] w fun x W => ∃ v, x = .returned v ∧ W.ownsRow w.heap.size 5 1 v 10 ((31 :: lowB (two64 m) 8 ++ [by8 sc]).map bv) ∧ Below w.heap.size w W := by
  have HB : Hid (BX w [] w) := Lib.hid (BX.start w); go_enter Tryz.func41, Tryz.ntmps41
  repeat' (first | ((with_reducible show Oper.wp _ _ _ _ _ _); with_reducible refine stop_bx _ rfl ?_) | go_values | go_skip | go_guarded | go_step | go_upon)
  refine Lib.hid ?_; refine al_g HB 41 (vl 1 m sc t b e) (by kernel_rfl) ?_; clear HB
  (first | (have _t : Nat := g10; clear _t; intro g11 W HB) | (have _t : Nat := g9; clear _t; intro g10 W HB) | (have _t : Nat := g8; clear _t; intro g9 W HB) | (have _t : Nat := g7; clear _t; intro g8 W HB) | (have _t : Nat := g6; clear _t; intro g7 W HB) | (have _t : Nat := g5; clear _t; intro g6 W HB) | (have _t : Nat := g4; clear _t; intro g5 W HB) | (have _t : Nat := g3; clear _t; intro g4 W HB) | (have _t : Nat := g2; clear _t; intro g3 W HB) | (have _t : Nat := g1; clear _t; intro g2 W HB) | (have _t : Nat := g0; clear _t; intro g1 W HB) | intro g0 W HB)
  go_simp
  repeat' (first | ((with_reducible show Oper.wp _ _ _ _ _ _); with_reducible refine is_ld 3 _ rfl ?_; refine lf_int 0 HB rfl _ rfl rfl rfl ?_; go_simp) | go_values | go_skip | go_guarded | go_step | go_upon)
  have hst0 : P4 w g0 41 (vl 1 m sc t b e) [31] (31 :: lowB (two64 m) 8) [by8 sc] none none none none W.drew := ⟨HB.out.bel.drew, ⟨HB.out.get (i := 0) rfl, by decide⟩, fun u h => (by cases h), fun u h => (by cases h), fun u h => (by cases h), fun u h => (by cases h)⟩
  have hSB : ∀ (vals : List (Option Value)) (W : World), P4V w g0 41 (vl 1 m sc t b e) [31] (31 :: lowB (two64 m) 8) [by8 sc] vals W → Bk W g0 41 (vl 1 m sc t b e).toArray := fun vals W hS => by
    match vals, hS with
    | [a, b, c, d, e], hS => exact hS.1.2.1.1
  refine wp_region_parts (S := (P4V w g0 41 (vl 1 m sc t b e) [31] (31 :: lowB (two64 m) 8) [by8 sc])) (E := fun _ _ => True) [0, 4, 9, 10, 11] [(1, Is (.pointer (some ⟨g0, 0, none⟩)))] [(10, Is (.pointer (some ⟨g0, 1, none⟩))), (11, Is (.pointer (some ⟨g0, 1, none⟩))), (12, Is (.int .i64 m)), (14, Is (.pointer (some ⟨g0, 1, none⟩))), (15, Is (.pointer (some ⟨g0, 2, none⟩))), (16, Is (.int .i64 sc)), (17, Is (.int .u8 (sc % 256)))]
    [.phase 0 [] [] [], .op [1] none, .op [10] none, .op [11] none, .phase 1 [12] [(0, 9)] [0], .op [1] none, .op [14] none, .op [15] none, .op [16] none, .phase 2 [17] [] [], .phase 3 [] [(1, 13), (2, 18)] [1, 2], .phase 4 [] [(3, 19)] [3]] (by as_aux_lemma => kernel_rfl) ?_ ?_ ?_ ?_ ?_ ⟨stable_is _ _, stable_is _ _, stable_is _ _, stable_is _ _, stable_is _ _, stable_is _ _, stable_is _ _, stable_is _ _, trivial⟩ ?_ ⟨hst0, fun u h => by cases h⟩ ?_ ?_
  · as_aux_lemma => kernel_rfl
  · as_aux_lemma => kernel_rfl
  · as_aux_lemma => kernel_rfl
  · as_aux_lemma => kernel_rfl
  · as_aux_lemma => kernel_rfl
  · exact ⟨rfl, trivial⟩
  · refine ⟨?_, ?_, ?_, ?_, ?_, ?_, ?_, ?_, ?_, ?_, ?_, ?_, trivial⟩
    · as_aux_lemma =>
        intro a W vals hv hn hS hL hp hd; clear hL
        obtain ⟨o0, o1, o2, o3, o4, rfl⟩ : ∃ o0 o1 o2 o3 o4, vals = [o0, o1, o2, o3, o4] := by
          match vals, hv with
          | [xo0, xo1, xo2, xo3, xo4], _ => exact ⟨xo0, xo1, xo2, xo3, xo4, rfl⟩
        obtain rfl : o0 = none := Option.some.inj hn; go_simp; exact ⟨⟨hS.1.first, hS.2⟩, trivial, trivial⟩
    · as_aux_lemma => intro vals a W hS hL; have e1 : a.tmps.getD 1 undef = .pointer (some ⟨g0, 0, none⟩) := hL.1; clear hL; go_simp; exact ⟨dstY (by rfl), hS, trivial⟩
    · as_aux_lemma => intro vals a W hS hL; have e10 : a.tmps.getD 10 undef = .pointer (some ⟨g0, 1, none⟩) := hL.1; clear hL; go_simp; exact ⟨dstY (by rfl), hS, trivial⟩
    · as_aux_lemma => intro vals a W hS hL; have e11 : a.tmps.getD 11 undef = .pointer (some ⟨g0, 1, none⟩) := hL.1; clear hL; have fb : W.cell? ⟨g0, 1, none⟩ = some (.int .i64 m) := (hSB vals W hS).cell 1; go_simp; exact ⟨dstY (by rfl), hS, trivial⟩
    · as_aux_lemma =>
        intro a W vals hv hn hS hL hp hd; have e12 : a.tmps.getD 12 undef = .int .i64 m := hL.1; clear hL
        obtain ⟨o0, o1, o2, o3, o4, rfl⟩ : ∃ o0 o1 o2 o3 o4, vals = [o0, o1, o2, o3, o4] := by
          match vals, hv with
          | [xo0, xo1, xo2, xo3, xo4], _ => exact ⟨xo0, xo1, xo2, xo3, xo4, rfl⟩
        obtain rfl : o1 = none := Option.some.inj hn; have hp0 : o0 = some (a.tmps.getD 9 undef) := Option.some.inj hp.1; obtain ⟨h9, e9, hw9, hk9⟩ := hS.1.2.2.1 _ hp0 rfl; rw [e9] at hp0; subst hp0; rw [Array.getD_eq_getD_getElem?] at e9; go_simp; refine (put64_any (k := m) (bk_rd (k := 1) (n := 1) hk9 rfl) (Nat.le_refl _) (by decide)).mono ?_; rintro e W2 ⟨v2, rfl, ho, hb⟩; exact ⟨v2, rfl, ⟨hS.1.second hb (by simpa [lowB_len] using ho), hS.2⟩, trivial, trivial⟩
    · as_aux_lemma => intro vals a W hS hL; have e1 : a.tmps.getD 1 undef = .pointer (some ⟨g0, 0, none⟩) := hL.1; clear hL; go_simp; exact ⟨dstY (by rfl), hS, trivial⟩
    · as_aux_lemma => intro vals a W hS hL; have e14 : a.tmps.getD 14 undef = .pointer (some ⟨g0, 1, none⟩) := hL.1; clear hL; go_simp; exact ⟨dstY (by rfl), hS, trivial⟩
    · as_aux_lemma => intro vals a W hS hL; have e15 : a.tmps.getD 15 undef = .pointer (some ⟨g0, 2, none⟩) := hL.1; clear hL; have fb : W.cell? ⟨g0, 2, none⟩ = some (.int .i64 sc) := (hSB vals W hS).cell 2; go_simp; exact ⟨dstY (by rfl), hS, trivial⟩
    · as_aux_lemma => intro vals a W hS hL; have e16 : a.tmps.getD 16 undef = .int .i64 sc := hL.1; clear hL; go_simp; exact ⟨dstY (by rfl), hS, trivial⟩
    · as_aux_lemma =>
        intro a W vals hv hn hS hL hp hd; have e17 : a.tmps.getD 17 undef = .int .u8 (sc % 256) := hL.1; clear hL
        obtain ⟨o0, o1, o2, o3, o4, rfl⟩ : ∃ o0 o1 o2 o3 o4, vals = [o0, o1, o2, o3, o4] := by
          match vals, hv with
          | [xo0, xo1, xo2, xo3, xo4], _ => exact ⟨xo0, xo1, xo2, xo3, xo4, rfl⟩
        obtain rfl : o2 = none := Option.some.inj hn; rw [Array.getD_eq_getD_getElem?] at e17; go_simp; have := hS.1.third; rw [List.map_cons, List.map_nil, bv_by8] at this; exact ⟨⟨this, hS.2⟩, trivial, trivial⟩
    · as_aux_lemma =>
        intro a W vals hv hn hS hL hp hd; clear hL
        obtain ⟨o0, o1, o2, o3, o4, rfl⟩ : ∃ o0 o1 o2 o3 o4, vals = [o0, o1, o2, o3, o4] := by
          match vals, hv with
          | [xo0, xo1, xo2, xo3, xo4], _ => exact ⟨xo0, xo1, xo2, xo3, xo4, rfl⟩
        obtain rfl : o3 = none := Option.some.inj hn; have hp1 : o1 = some (a.tmps.getD 13 undef) := Option.some.inj hp.1; have hp2 : o2 = some (a.tmps.getD 18 undef) := Option.some.inj hp.2.1; subst hp1 hp2; refine lands_app8 bytesRow (.tmp 13) (.tmp 18) rfl rfl rfl hS.1 (by simp [lowB_len]) fun u W2 h => ⟨⟨h, fun x hx => by have := hS.2 x hx; cases this⟩, trivial, trivial⟩
    · as_aux_lemma =>
        intro a W vals hv hn hS hL hp hd; clear hL
        obtain ⟨o0, o1, o2, o3, o4, rfl⟩ : ∃ o0 o1 o2 o3 o4, vals = [o0, o1, o2, o3, o4] := by
          match vals, hv with
          | [xo0, xo1, xo2, xo3, xo4], _ => exact ⟨xo0, xo1, xo2, xo3, xo4, rfl⟩
        obtain rfl : o4 = none := Option.some.inj hn; have hp3 : o3 = some (a.tmps.getD 19 undef) := Option.some.inj hp.1; rw [Array.getD_eq_getD_getElem?] at hp3; subst hp3; go_simp; exact ⟨⟨hS.1, fun u h => h⟩, trivial, trivial⟩
  · intro a W vals hd hsz hT hF hv hall hQ hS
    obtain ⟨o0, o1, o2, o3, o4, rfl⟩ : ∃ o0 o1 o2 o3 o4, vals = [o0, o1, o2, o3, o4] := by
      match vals, hv with
      | [x0, x1, x2, x3, x4], _ => exact ⟨x0, x1, x2, x3, x4, rfl⟩
    obtain ⟨u, hu⟩ := hall 4 (by decide); have e2 : u = a.tmps.getD 2 undef := hQ 4 11 _ 2 u rfl rfl rfl hu; have ho := hS.1.2.2.2.2.2 u (hS.2 u (Option.some.inj hu)); have hb := hS.1.1; rw [e2] at ho; have HO := Lib.hid (And.intro ho hb); clear hT hF hv hall hQ hS hu e2 ho hb hst0 hSB HB; rw [act_lit 40 a hd hsz]; simp only [List.range, List.range.loop, List.map]; generalize a.tmps.getD 0 undef = y0 at *; generalize a.tmps.getD 1 undef = y1 at *; generalize a.tmps.getD 2 undef = y2 at *; generalize a.tmps.getD 3 undef = y3 at *; generalize a.tmps.getD 4 undef = y4 at *; generalize a.tmps.getD 5 undef = y5 at *; generalize a.tmps.getD 6 undef = y6 at *; generalize a.tmps.getD 7 undef = y7 at *; generalize a.tmps.getD 8 undef = y8 at *; generalize a.tmps.getD 9 undef = y9 at *; generalize a.tmps.getD 10 undef = y10 at *; generalize a.tmps.getD 11 undef = y11 at *; generalize a.tmps.getD 12 undef = y12 at *; generalize a.tmps.getD 13 undef = y13 at *; generalize a.tmps.getD 14 undef = y14 at *; generalize a.tmps.getD 15 undef = y15 at *; generalize a.tmps.getD 16 undef = y16 at *; generalize a.tmps.getD 17 undef = y17 at *; generalize a.tmps.getD 18 undef = y18 at *; generalize a.tmps.getD 19 undef = y19 at *; generalize a.tmps.getD 20 undef = y20 at *; generalize a.tmps.getD 21 undef = y21 at *; generalize a.tmps.getD 22 undef = y22 at *; generalize a.tmps.getD 23 undef = y23 at *; generalize a.tmps.getD 24 undef = y24 at *; generalize a.tmps.getD 25 undef = y25 at *; generalize a.tmps.getD 26 undef = y26 at *; generalize a.tmps.getD 27 undef = y27 at *; generalize a.tmps.getD 28 undef = y28 at *; generalize a.tmps.getD 29 undef = y29 at *; generalize a.tmps.getD 30 undef = y30 at *; generalize a.tmps.getD 31 undef = y31 at *; generalize a.tmps.getD 32 undef = y32 at *; generalize a.tmps.getD 33 undef = y33 at *; generalize a.tmps.getD 34 undef = y34 at *; generalize a.tmps.getD 35 undef = y35 at *; generalize a.tmps.getD 36 undef = y36 at *; generalize a.tmps.getD 37 undef = y37 at *; generalize a.tmps.getD 38 undef = y38 at *; generalize a.tmps.getD 39 undef = y39 at *
    repeat' (first | go_values | go_skip | go_guarded | go_step | go_upon)
    go_ret; exact ⟨_, rfl, HO.out.1, HO.out.2⟩
theorem or_bits (x y : Bool) : bits .or .u8 (pbit x 1) (pbit y 2) = pbit x 1 + pbit y 2 := by cases x <;> cases y <;> decide
theorem pb_mod (x y : Bool) : (pbit x 1 + pbit y 2) % 256 = pbit x 1 + pbit y 2 := by cases x <;> cases y <;> decide
theorem lputL_len (l : List UInt8) (k : Int) : (lputL l k 2).length ≤ l.length + 2 := by
  unfold lputL
  split
  · simp [lowB_len]
  · omega
set_option maxRecDepth 20000 in
set_option maxHeartbeats 4000000 in
theorem putRef_at {w : World} {B n c : Nat} {A : Option Addr} {l : List UInt8} (h : Rd w B 1 A n (l.map bv)) (hB : B ≤ w.heap.size) (hn : n ≤ 900) (r cc : Int) (x y : Bool) : Calls Tryz.prog 73 #[.slice A n c, .agg #[.int .i64 r, .int .i64 cc, .bool x, .bool y]] w fun e W => ∃ v, e = .returned v ∧ W.ownsRow w.heap.size 5 1 v (refL l r cc x y).length ((refL l r cc x y).map bv) ∧ Below w.heap.size w W := by
  have HH := Lib.hid (And.intro h (And.intro hB hn)); have HLN : Hid ((lputL l r 2).length + [by8 cc, by8 (pbit x 1 + pbit y 2)].length ≤ 1000) := Lib.hid (by have := lputL_len l r; have := h.blen; simp; omega); clear h hB hn; have HB : Hid (BX w [] w) := Lib.hid (BX.start w); go_enter Tryz.func73, Tryz.ntmps73
  repeat' (first | ((with_reducible show Oper.wp _ _ _ _ _ _); with_reducible refine stop_bx _ rfl ?_) | go_values | go_skip | go_guarded | go_step | go_upon)
  refine Lib.hid ?_; refine al_g HB 42 (rc r cc x y) (by kernel_rfl) ?_; clear HB
  (first | (have _t : Nat := g10; clear _t; intro g11 W HB) | (have _t : Nat := g9; clear _t; intro g10 W HB) | (have _t : Nat := g8; clear _t; intro g9 W HB) | (have _t : Nat := g7; clear _t; intro g8 W HB) | (have _t : Nat := g6; clear _t; intro g7 W HB) | (have _t : Nat := g5; clear _t; intro g6 W HB) | (have _t : Nat := g4; clear _t; intro g5 W HB) | (have _t : Nat := g3; clear _t; intro g4 W HB) | (have _t : Nat := g2; clear _t; intro g3 W HB) | (have _t : Nat := g1; clear _t; intro g2 W HB) | (have _t : Nat := g0; clear _t; intro g1 W HB) | intro g0 W HB)
  go_simp
  repeat' (first | ((with_reducible show Oper.wp _ _ _ _ _ _); with_reducible refine is_ld 3 _ rfl ?_; refine lf_int 0 HB rfl _ rfl rfl rfl ?_; go_simp) | go_values | go_skip | go_guarded | go_step | go_upon)
  refine (lput16_any (k := r) (HH.out.1.belowMono HB.out.bel HH.out.2.1) (Nat.le_trans HH.out.2.1 HB.out.bel.size) (by have := HH.out.2.2; omega)).mono ?_; rintro e W1 ⟨v1, rfl, ho, hb⟩; have ho1 := own_mono ho HB.out.bel.size; have HB := Lib.hid (HB.out.call hb); have hlen : (lputL l r 2).length = (lputL l r 2).length := rfl; obtain ⟨A1, c1, e1, -⟩ := own_form ho1; obtain ⟨n1, hn1⟩ : ∃ n1, n1 = (lputL l r 2).length := ⟨_, rfl⟩
  rw [← hn1] at e1; subst e1; have HO1 := Lib.hid ho1; clear ho hb ho1 hlen hn1; dsimp only
  repeat' (first | go_values | go_skip | go_guarded | go_step | go_upon)
  have hst0 : P4 w g0 42 (rc r cc x y) [] (lputL l r 2) [by8 cc, by8 (pbit x 1 + pbit y 2)] (some undef) (some (.slice A1 n1 c1)) none none W1.drew := ⟨HB.out.bel.drew, ⟨HB.out.get (i := 0) rfl, by decide⟩, fun u _ h => (by cases h), fun u h _ => (by injection h with h; subst h; exact HO1.out), fun u h => (by cases h), fun u h => (by cases h)⟩
  have hSB : ∀ (vals : List (Option Value)) (W : World), P2V w g0 42 (rc r cc x y) (.slice A1 n1 c1) (lputL l r 2) [by8 cc, by8 (pbit x 1 + pbit y 2)] vals W → Bk W g0 42 (rc r cc x y).toArray := fun vals W hS => by
    match vals, hS with
    | [c, d, e], hS => exact hS.1.2.1.1
  refine wp_region_parts (S := (P2V w g0 42 (rc r cc x y) (.slice A1 n1 c1) (lputL l r 2) [by8 cc, by8 (pbit x 1 + pbit y 2)])) (E := fun _ _ => True) [11, 12, 13] [(0, Is (.slice A1 n1 c1)), (3, Is (.pointer (some ⟨g0, 0, none⟩)))] [(12, Is (.slice A1 n1 c1)), (13, Is (.pointer (some ⟨g0, 1, none⟩))), (14, Is (.int .i64 cc)), (15, Is (.int .u8 (cc % 256))), (16, Is (.pointer (some ⟨g0, 2, none⟩))), (17, Is (.bool x)), (18, Is (.int .u8 (pbit x 1))), (19, Is (.pointer (some ⟨g0, 3, none⟩))), (20, Is (.bool y)), (21, Is (.int .u8 (pbit y 2))), (22, Is (.int .u8 (pbit x 1 + pbit y 2)))]
    [.op [0] none, .op [3] none, .op [13] none, .op [14] none, .op [3] none, .op [16] none, .op [17] none, .op [3] none, .op [19] none, .op [20] none, .op [18, 21] none, .phase 0 [15, 22] [] [], .phase 1 [12] [(0, 23)] [0], .phase 2 [] [(1, 24)] [1]] (by as_aux_lemma => kernel_rfl) ?_ ?_ ?_ ?_ ?_ ⟨stable_is _ _, stable_is _ _, stable_is _ _, stable_is _ _, stable_is _ _, stable_is _ _, stable_is _ _, stable_is _ _, stable_is _ _, stable_is _ _, stable_is _ _, stable_is _ _, stable_is _ _, trivial⟩ ?_ ⟨hst0, fun u h => by cases h⟩ ?_ ?_
  · as_aux_lemma => kernel_rfl
  · as_aux_lemma => kernel_rfl
  · as_aux_lemma => kernel_rfl
  · as_aux_lemma => kernel_rfl
  · as_aux_lemma => kernel_rfl
  · exact ⟨rfl, rfl, trivial⟩
  · refine ⟨?_, ?_, ?_, ?_, ?_, ?_, ?_, ?_, ?_, ?_, ?_, ?_, ?_, ?_, trivial⟩
    · as_aux_lemma => intro vals a W hS hL; have e0 : a.tmps.getD 0 undef = .slice A1 n1 c1 := hL.1; clear hL; go_simp; exact ⟨dstY (by rfl), hS, trivial⟩
    · as_aux_lemma => intro vals a W hS hL; have e3 : a.tmps.getD 3 undef = .pointer (some ⟨g0, 0, none⟩) := hL.1; clear hL; go_simp; exact ⟨dstY (by rfl), hS, trivial⟩
    · as_aux_lemma => intro vals a W hS hL; have e13 : a.tmps.getD 13 undef = .pointer (some ⟨g0, 1, none⟩) := hL.1; clear hL; have fb : W.cell? ⟨g0, 1, none⟩ = some (.int .i64 cc) := (hSB vals W hS).cell 1; go_simp; exact ⟨dstY (by rfl), hS, trivial⟩
    · as_aux_lemma => intro vals a W hS hL; have e14 : a.tmps.getD 14 undef = .int .i64 cc := hL.1; clear hL; go_simp; exact ⟨dstY (by rfl), hS, trivial⟩
    · as_aux_lemma => intro vals a W hS hL; have e3 : a.tmps.getD 3 undef = .pointer (some ⟨g0, 0, none⟩) := hL.1; clear hL; go_simp; exact ⟨dstY (by rfl), hS, trivial⟩
    · as_aux_lemma => intro vals a W hS hL; have e16 : a.tmps.getD 16 undef = .pointer (some ⟨g0, 2, none⟩) := hL.1; clear hL; have fb : W.cell? ⟨g0, 2, none⟩ = some (.bool x) := (hSB vals W hS).cell 2; go_simp; exact ⟨dstY (by rfl), hS, trivial⟩
    · as_aux_lemma => intro vals a W hS hL; have e17 : a.tmps.getD 17 undef = .bool x := hL.1; clear hL; go_simp; refine (bit_any x 1).mono ?_; rintro e W2 ⟨rfl, rfl⟩; exact ⟨_, rfl, dstY (by rfl), hS, trivial⟩
    · as_aux_lemma => intro vals a W hS hL; have e3 : a.tmps.getD 3 undef = .pointer (some ⟨g0, 0, none⟩) := hL.1; clear hL; go_simp; exact ⟨dstY (by rfl), hS, trivial⟩
    · as_aux_lemma => intro vals a W hS hL; have e19 : a.tmps.getD 19 undef = .pointer (some ⟨g0, 3, none⟩) := hL.1; clear hL; have fb : W.cell? ⟨g0, 3, none⟩ = some (.bool y) := (hSB vals W hS).cell 3; go_simp; exact ⟨dstY (by rfl), hS, trivial⟩
    · as_aux_lemma => intro vals a W hS hL; have e20 : a.tmps.getD 20 undef = .bool y := hL.1; clear hL; go_simp; refine (bit_any y 2).mono ?_; rintro e W2 ⟨rfl, rfl⟩; exact ⟨_, rfl, dstY (by rfl), hS, trivial⟩
    · as_aux_lemma => intro vals a W hS hL; have e18 : a.tmps.getD 18 undef = .int .u8 (pbit x 1) := hL.1; have e21 : a.tmps.getD 21 undef = .int .u8 (pbit y 2) := hL.2.1; clear hL; have hor := or_bits x y; go_simp; exact ⟨dstY (by rfl), hS, trivial⟩
    · as_aux_lemma =>
        intro a W vals hv hn hS hL hp hd; have e15 : a.tmps.getD 15 undef = .int .u8 (cc % 256) := hL.1; have e22 : a.tmps.getD 22 undef = .int .u8 (pbit x 1 + pbit y 2) := hL.2.1; clear hL
        obtain ⟨o0, o1, o2, rfl⟩ : ∃ o0 o1 o2, vals = [o0, o1, o2] := by
          match vals, hv with
          | [xo0, xo1, xo2], _ => exact ⟨xo0, xo1, xo2, rfl⟩
        obtain rfl : o0 = none := Option.some.inj hn; rw [Array.getD_eq_getD_getElem?] at e15 e22; go_simp; have := hS.1.third; rw [List.map_cons, List.map_cons, List.map_nil, bv_by8, bv_by8, pb_mod] at this; exact ⟨⟨this, hS.2⟩, trivial, trivial⟩
    · as_aux_lemma =>
        intro a W vals hv hn hS hL hp hd; have e12 : a.tmps.getD 12 undef = .slice A1 n1 c1 := hL.1; clear hL
        obtain ⟨o0, o1, o2, rfl⟩ : ∃ o0 o1 o2, vals = [o0, o1, o2] := by
          match vals, hv with
          | [xo0, xo1, xo2], _ => exact ⟨xo0, xo1, xo2, rfl⟩
        obtain rfl : o1 = none := Option.some.inj hn; have hp0 : o0 = some (a.tmps.getD 23 undef) := Option.some.inj hp.1; subst hp0; refine lands_app8 bytesRow (.tmp 12) (.tmp 23) rfl e12 rfl hS.1 HLN.out fun u W2 h => ⟨⟨h, fun x hx => by have := hS.2 x hx; cases this⟩, trivial, trivial⟩
    · as_aux_lemma =>
        intro a W vals hv hn hS hL hp hd; clear hL
        obtain ⟨o0, o1, o2, rfl⟩ : ∃ o0 o1 o2, vals = [o0, o1, o2] := by
          match vals, hv with
          | [xo0, xo1, xo2], _ => exact ⟨xo0, xo1, xo2, rfl⟩
        obtain rfl : o2 = none := Option.some.inj hn; have hp1 : o1 = some (a.tmps.getD 24 undef) := Option.some.inj hp.1; rw [Array.getD_eq_getD_getElem?] at hp1; subst hp1; go_simp; exact ⟨⟨hS.1, fun u h => h⟩, trivial, trivial⟩
  · intro a W vals hd hsz hT hF hv hall hQ hS
    obtain ⟨o0, o1, o2, rfl⟩ : ∃ o0 o1 o2, vals = [o0, o1, o2] := by
      match vals, hv with
      | [x0, x1, x2], _ => exact ⟨x0, x1, x2, rfl⟩
    obtain ⟨u, hu⟩ := hall 2 (by decide); have e2 : u = a.tmps.getD 4 undef := hQ 2 13 _ 4 u rfl rfl rfl hu; have ho := hS.1.2.2.2.2.2 u (hS.2 u (Option.some.inj hu)); have hb := hS.1.1; rw [e2] at ho; have HO := Lib.hid (And.intro ho hb); clear hT hF hv hall hQ hS hu e2 ho hb hst0 hSB HB; rw [act_lit 25 a hd hsz]; simp only [List.range, List.range.loop, List.map]; generalize a.tmps.getD 0 undef = y0 at *; generalize a.tmps.getD 1 undef = y1 at *; generalize a.tmps.getD 2 undef = y2 at *; generalize a.tmps.getD 3 undef = y3 at *; generalize a.tmps.getD 4 undef = y4 at *; generalize a.tmps.getD 5 undef = y5 at *; generalize a.tmps.getD 6 undef = y6 at *; generalize a.tmps.getD 7 undef = y7 at *; generalize a.tmps.getD 8 undef = y8 at *; generalize a.tmps.getD 9 undef = y9 at *; generalize a.tmps.getD 10 undef = y10 at *; generalize a.tmps.getD 11 undef = y11 at *; generalize a.tmps.getD 12 undef = y12 at *; generalize a.tmps.getD 13 undef = y13 at *; generalize a.tmps.getD 14 undef = y14 at *; generalize a.tmps.getD 15 undef = y15 at *; generalize a.tmps.getD 16 undef = y16 at *; generalize a.tmps.getD 17 undef = y17 at *; generalize a.tmps.getD 18 undef = y18 at *; generalize a.tmps.getD 19 undef = y19 at *; generalize a.tmps.getD 20 undef = y20 at *; generalize a.tmps.getD 21 undef = y21 at *; generalize a.tmps.getD 22 undef = y22 at *; generalize a.tmps.getD 23 undef = y23 at *; generalize a.tmps.getD 24 undef = y24 at *
    repeat' (first | go_values | go_skip | go_guarded | go_step | go_upon)
    go_ret; refine ⟨_, rfl, ?_, HO.out.2⟩; have := HO.out.1; unfold refL; rw [List.length_append]; exact this
set_option maxRecDepth 20000 in
set_option maxHeartbeats 4000000 in
theorem putCell_at {w : World} (p : Pay) (hk : p.kind = 2) (A : Option Addr) (n c : Nat) : Calls Tryz.prog 42 #[.agg (ec p (.slice A n c)).toArray] w fun e W => ∃ v, e = .returned v ∧ W.ownsRow w.heap.size 5 1 v (placeL p).length ((placeL p).map bv) ∧ Below w.heap.size w W := by
  have e1 : placeL p = refL [36] p.r1 p.c1 p.x1 p.y1 := by
    unfold placeL; rw [hk]; rfl
  rw [e1]; have hk0 : (ec p (.slice A n c))[0]? = some (.int .i64 2) := by rw [← hk]; rfl
  have HK := Lib.hid hk0; clear e1 hk0; have HB : Hid (BX w [] w) := Lib.hid (BX.start w); go_enter Tryz.func42, Tryz.ntmps42
  repeat' (first | ((with_reducible show Oper.wp _ _ _ _ _ _); with_reducible refine stop_bx _ rfl ?_) | go_values | go_skip | go_guarded | go_step | go_upon)
  refine Lib.hid ?_; refine al_g HB 47 (ec p (.slice A n c)) (by kernel_rfl) ?_; clear HB; intro g0 W HB; go_simp
  repeat' (first | ((with_reducible show Oper.wp _ _ _ _ _ _); with_reducible refine stop_ld (ty := 3) _ rfl ?_) | go_values | go_skip | go_guarded | go_step | go_upon)
  refine Lib.hid ?_; refine lf_int 0 HB rfl _ rfl rfl HK.out ?_; go_simp
  repeat' (first | go_values | go_skip | go_guarded | go_step | go_upon)
  refine (mark_any (.inl rfl)).mono ?_; rintro e W1 ⟨rfl, rfl⟩; dsimp only
  repeat' (first | ((with_reducible show Oper.wp _ _ _ _ _ _); with_reducible refine stop_bsu rfl ?_) | go_values | go_skip | go_guarded | go_step | go_upon)
  refine Lib.hid ?_; refine bs_g HB [.int .u8 36] (e := 5) (n := 1) (by kernel_rfl) ?_; clear HB; intro g1 W2 HB; go_simp
  repeat' (first | ((with_reducible show Oper.wp _ _ _ _ _ _); with_reducible refine stop_ld (ty := 3) _ rfl ?_) | go_values | go_skip | go_guarded | go_step | go_upon)
  refine Lib.hid ?_; refine lf_int 1 HB rfl _ rfl rfl HK.out ?_; go_simp
  repeat' (first | go_values | go_skip | go_guarded | go_step | go_upon)
  refine (hasSheet_any 2).mono ?_; rintro e W3 ⟨rfl, rfl⟩; dsimp only
  repeat' (first | ((with_reducible show Oper.wp _ _ _ _ _ _); with_reducible refine stop_ld (ty := 42) _ rfl ?_) | go_values | go_skip | go_guarded | go_step | go_upon)
  refine Lib.hid ?_; refine ldm_g (cs := rc p.r1 p.c1 p.x1 p.y1) rtRef _ rfl rfl (fun j u hu => ?_) ?_
  · have := HB.out.cell (i := 1) rfl (7 + j); refine (show (⟨g0, 7, none⟩ : Addr).add j = ⟨g0, 7 + j, none⟩ by unfold Addr.add; split <;> simp_all) ▸ this.trans ?_; have hj : j < 4 := (List.getElem?_eq_some_iff.1 hu).1
    match j, hj, hu with
    | 0, _, hu => exact hu
    | 1, _, hu => exact hu
    | 2, _, hu => exact hu
    | 3, _, hu => exact hu
  go_simp
  repeat' (first | go_values | go_skip | go_guarded | go_step | go_upon)
  refine (putRef_at (B := W3.heap.size) (l := [36]) (bk_rd (k := 1) (n := 1) (HB.out.get (i := 0) rfl) rfl) (Nat.le_refl _) (by decide) p.r1 p.c1 p.x1 p.y1).mono ?_; rintro e W4 ⟨v, rfl, ho, hb⟩; have HO := Lib.hid (own_mono ho HB.out.bel.size); have HB := Lib.hid (HB.out.call hb); have HO2 : Hid (W4.ownsRow w.heap.size 5 1 v (refL [36] p.r1 p.c1 p.x1 p.y1).length ((refL [36] p.r1 p.c1 p.x1 p.y1).map bv)) := HO; clear ho hb HO; dsimp only
  repeat' (first | ((with_reducible show Oper.wp _ _ _ _ _ _); with_reducible refine stop_ld (ty := 3) _ rfl ?_) | go_values | go_skip | go_guarded | go_step | go_upon)
  refine Lib.hid ?_; refine lf_int 1 HB rfl _ rfl rfl HK.out ?_; go_simp
  repeat' (first | go_values | go_skip | go_guarded | go_step | go_upon)
  refine (hasArea_any 2).mono ?_; rintro e W5 ⟨rfl, rfl⟩; dsimp only
  repeat' (first | go_values | go_skip | go_guarded | go_step | go_upon)
  go_ret; exact ⟨_, rfl, HO2.out, HB.out.bel⟩
end Go.Proofs.YtlaiocdnddnnaaaGreatDoor
