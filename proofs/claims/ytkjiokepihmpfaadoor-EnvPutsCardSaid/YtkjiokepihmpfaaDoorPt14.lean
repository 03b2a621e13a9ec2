/- env.Put where no Names are, by their contracts. utf8.ValidString keeps its contract; a row in order; what is put may be put. -/
import Derived.Test.YtkjiokepihmpfaaDoorPu14
import Derived.Test.YtkjiokepihmpfaaDoorLast
set_option linter.unusedVariables false
set_option linter.unusedSimpArgs false
namespace Go.Proofs.YtkjiokepihmpfaaDoor
open Go.RowKit

theorem own_below {W W' : World} {base n k : Nat} {e : TypeId} {v : Value} {xs : List Value} (h : W.ownsRow base e k v n xs) (hb : Below W.heap.size W W') : W'.ownsRow base e k v n xs :=
  (Keep.of_below (S := fun i => W.heap.size ≤ i) hb fun i _ h => h).own h fun i hi h2 => by have := (h.lt i hi).2; omega
/-- An Env of a row of one's own, no Names. -/
def OwE (W : World) (base : Nat) (N : Int) (R : List Sl) (u : Value) : Prop := ∃ (A : Option Addr) (c : Nat), u = .agg (enc N (.slice A R.length c) (.slice none 0 0)).toArray ∧ R.length ≤ c ∧ W.ownsRow base 44 9 (.slice A R.length c) R.length (rwc R)
def OwR (W : World) (base : Nat) (R : List Sl) (u : Value) : Prop := ∃ (A : Option Addr) (c : Nat), u = .slice A R.length c ∧ R.length ≤ c ∧ W.ownsRow base 44 9 (.slice A R.length c) R.length (rwc R)
theorem OwE.below {W W' : World} {base : Nat} {N : Int} {R : List Sl} {u : Value} (h : OwE W base N R u) (hb : Below W.heap.size W W') : OwE W' base N R u := by
  obtain ⟨A, c, e, hc, ho⟩ := h
  exact ⟨A, c, e, hc, own_below ho hb⟩
theorem OwE.mono {W : World} {base base' : Nat} {N : Int} {R : List Sl} {u : Value} (h : OwE W base N R u) (hb : base' ≤ base) : OwE W base' N R u := by
  obtain ⟨A, c, e, hc, ho⟩ := h
  exact ⟨A, c, e, hc, own_mono ho hb⟩
theorem OwR.below {W W' : World} {base : Nat} {R : List Sl} {u : Value} (h : OwR W base R u) (hb : Below W.heap.size W W') : OwR W' base R u := by
  obtain ⟨A, c, e, hc, ho⟩ := h
  exact ⟨A, c, e, hc, own_below ho hb⟩
theorem res_g {fn : Func} {q : Tmp} {T : TypeId} {cs : List Value} {W : World} {g : Nat} (R : RowT T cs.length) (h : fn.results = #[.cell q T]) {tmps : Array Value} (hp : tmps.getD q undef = .pointer (some ⟨g, 0, none⟩)) (hk : Bk W g T cs.toArray) : (results fn tmps).run Tryd.prog W = .ok (.agg cs.toArray) W := by
  obtain ⟨d, hu, hd⟩ := R.und
  exact results_cell_row h tmps W g T cs.toArray (0, 0) _ hp hk hu (by cases d <;> first | rfl | exact hd | cases hd) (by rw [List.size_toArray]; exact R.size)
section
variable {o : Oper} {a : Act} {W : World}
theorem run_bE {N : Int} {A A' : Option Addr} {n c n' c' : Nat} (x y z : Operand) (ho : o.op = .build 28 #[(0, x), (1, y), (2, z)]) (hx : a.eval x = .int .i64 N) (hy : a.eval y = .slice A n c) (hz : a.eval z = .slice A' n' c') : (execOp a.eval o).run Tryd.prog W = .ok (.value (.agg (enc N (.slice A n c) (.slice A' n' c')).toArray)) W := by
  unfold execOp
  rw [ho]
  simp only [List.map_toArray, List.map_cons, List.map_nil, hx, hy, hz]
  clear ho hx hy hz
  kernel_rfl
end
set_option maxRecDepth 20000 in
set_option maxHeartbeats 4000000 in
theorem Put_any {w : World} (HV : Val w) {L : List Sl} {B c : Nat} {A : Option Addr} (p : Pl) (v : Va) (N : Int) {cn : Nat} (h : Rd w B 9 A L.length (rwc L)) (hB : B ≤ w.heap.size) (hl : L.length ≤ 100000) (hc : L.length ≤ c) (hU : Up L) (ht : v.t.size ≤ 140737488355328) (hp : gdP p N = true) (hv : ckW v = 0) :
    Calls Tryd.prog 8 #[.agg (enc N (.slice A L.length c) (.slice none 0 cn)).toArray, .agg (plc p).toArray, .agg (vac v).toArray] w fun e W => ∃ u, e = .returned u ∧ OwE W w.heap.size N (putR L p v) u ∧ Below w.heap.size w W := by
  have HP : Hid (∀ W : World, Below w.heap.size w W → Calls Tryd.prog 24 #[.agg (enc N (.slice A L.length c) (.slice none 0 cn)).toArray, .agg (plc p).toArray, .agg (vac v).toArray] W fun e W' => ∃ u, e = .returned u ∧ W'.ownsRow W.heap.size 44 9 u (putR L p v).length (rwc (putR L p v)) ∧ Below W.heap.size W W') := Lib.hid fun W hb => put_any14 (HV.below hb) p v N (h.belowMono hb hB) (Nat.le_trans hB hb.size) hl hc hU ht hp hv
  obtain ⟨n, hn⟩ : ∃ n, n = L.length := ⟨_, rfl⟩
  rw [← hn] at HP ⊢
  clear h hB hl hc hU ht hp hv HV hn
  have HB : Hid (BX w [] w) := Lib.hid (BX.start w)
  go_enter Tryd.func8, Tryd.ntmps8
  repeat' (first | ((with_reducible show Oper.wp _ _ _ _ _ _); (first | (with_reducible refine is_bx 40 _ rfl ?_; refine bx_pl HB _ rfl rfl ?_) | (with_reducible refine is_bx 32 _ rfl ?_; refine bx_va HB _ rfl rfl ?_) | (with_reducible refine is_bx 28 _ rfl ?_; refine bx_en HB _ rfl rfl ?_) | (with_reducible refine is_bx 44 _ rfl ?_; refine bx_sl HB _ rfl rfl ?_)); clear HB; (first | (have _t : Nat := g10; clear _t; intro g11 W HB) | (have _t : Nat := g9; clear _t; intro g10 W HB) | (have _t : Nat := g8; clear _t; intro g9 W HB) | (have _t : Nat := g7; clear _t; intro g8 W HB) | (have _t : Nat := g6; clear _t; intro g7 W HB) | (have _t : Nat := g5; clear _t; intro g6 W HB) | (have _t : Nat := g4; clear _t; intro g5 W HB) | (have _t : Nat := g3; clear _t; intro g4 W HB) | (have _t : Nat := g2; clear _t; intro g3 W HB) | (have _t : Nat := g1; clear _t; intro g2 W HB) | (have _t : Nat := g0; clear _t; intro g1 W HB) | intro g0 W HB); go_simp) | ((with_reducible show Oper.wp _ _ _ _ _ _); (first | (with_reducible refine is_al 40 rfl ?_; refine al_g HB 40 (plc ⟨0, 0, 0⟩) (by kernel_rfl) ?_) | (with_reducible refine is_al 32 rfl ?_; refine al_g HB 32 (vac blV) (by kernel_rfl) ?_) | (with_reducible refine is_al 28 rfl ?_; refine al_g HB 28 (enc 0 (.slice none 0 0) (.slice none 0 0)) (by kernel_rfl) ?_) | (with_reducible refine is_al 44 rfl ?_; refine al_g HB 44 (slc ⟨⟨0, 0, 0⟩, blV⟩) (by kernel_rfl) ?_)); clear HB; (first | (have _t : Nat := g10; clear _t; intro g11 W HB) | (have _t : Nat := g9; clear _t; intro g10 W HB) | (have _t : Nat := g8; clear _t; intro g9 W HB) | (have _t : Nat := g7; clear _t; intro g8 W HB) | (have _t : Nat := g6; clear _t; intro g7 W HB) | (have _t : Nat := g5; clear _t; intro g6 W HB) | (have _t : Nat := g4; clear _t; intro g5 W HB) | (have _t : Nat := g3; clear _t; intro g4 W HB) | (have _t : Nat := g2; clear _t; intro g3 W HB) | (have _t : Nat := g1; clear _t; intro g2 W HB) | (have _t : Nat := g0; clear _t; intro g1 W HB) | intro g0 W HB); go_simp) | go_values | go_skip | go_guarded | go_step | go_upon)
  have HK0 := Lib.hid (HB.out.get (i := 3) rfl)
  have HK1 := Lib.hid (HB.out.get (i := 2) rfl)
  have HK2 := Lib.hid (HB.out.get (i := 1) rfl)
  obtain ⟨W0, hW⟩ : ∃ W0, W0 = W := ⟨_, rfl⟩
  subst hW
  refine wp_region_last 10 _ rfl (by kernel_rfl) rfl ?_
  simp only [List.take_succ_cons, List.take_zero]
  refine wpAny_phases (S := (fun _ W => Below W0.heap.size W0 W)) (E := (fun W W' => Below W.heap.size W W')) [] [(3, Is (.pointer (some ⟨g0, 0, none⟩))), (4, Is (.pointer (some ⟨g1, 0, none⟩))), (5, Is (.pointer (some ⟨g2, 0, none⟩))), (6, Is (.pointer (some ⟨g3, 0, none⟩)))] [(7, Is (.pointer (some ⟨g0, 0, none⟩))), (8, Is (.int .i64 N)), (9, Is (.agg (enc N (.slice A n c) (.slice none 0 cn)).toArray)), (10, Is (.agg (plc p).toArray)), (11, Is (.agg (vac v).toArray)), (12, (fun u W => OwR W w.heap.size (putR L p v) u)), (13, Is (.pointer (some ⟨g0, 2, none⟩))), (14, Is (.slice none 0 cn)), (15, Is (.slice none 0 0)), (16, (fun u W => OwE W w.heap.size N (putR L p v) u))]
    [.op [3] none, .op [7] none, .op [3] none, .op [4] none, .op [5] none, .op [9, 10, 11] none, .op [3] none, .op [13] none, .op [14] none, .op [8, 12, 15] none] ?_ ?_ ?_ ?_ ?_ ⟨stable_is _ _, stable_is _ _, stable_is _ _, stable_is _ _, stable_is _ _, stable_is _ _, stable_is _ _, stable_is _ _, stable_is _ _, (fun _ _ _ hb h => h.below hb), stable_is _ _, stable_is _ _, stable_is _ _, (fun _ _ _ hb h => h.below hb), trivial⟩ ?_ (Below.refl _ _).drew ?_ ?_
  · as_aux_lemma => kernel_rfl
  · as_aux_lemma => kernel_rfl
  · as_aux_lemma => kernel_rfl
  · as_aux_lemma => kernel_rfl
  · as_aux_lemma => kernel_rfl
  · exact ⟨rfl, rfl, rfl, rfl, trivial⟩
  · refine ⟨?_, ?_, ?_, ?_, ?_, ?_, ?_, ?_, ?_, ?_, trivial⟩
    · as_aux_lemma =>
        intro vals a W hS hL
        have e3 : a.tmps.getD 3 undef = .pointer (some ⟨g0, 0, none⟩) := hL.1
        clear hL
        go_simp
        exact ⟨⟨fun d hd => by injection hd with hd; subst hd; rfl, fun h => by cases h⟩, hS, (Below.refl _ _)⟩
    · as_aux_lemma =>
        intro vals a W hS hL
        have e7 : a.tmps.getD 7 undef = .pointer (some ⟨g0, 0, none⟩) := hL.1
        clear hL
        refine lands_vB (run_ldi (z := N) (HK0.out.below hS HK0.out.lt) rfl (.tmp 7) rfl e7) ?_
        exact ⟨⟨fun d hd => by injection hd with hd; subst hd; rfl, fun h => by cases h⟩, hS, Below.refl _ _⟩
    · as_aux_lemma =>
        intro vals a W hS hL
        have e3 : a.tmps.getD 3 undef = .pointer (some ⟨g0, 0, none⟩) := hL.1
        clear hL
        refine lands_vB (run_ldg (cs := enc N (.slice A n c) (.slice none 0 cn)) rtEnv (HK0.out.below hS HK0.out.lt) (.tmp 3) rfl e3) ?_
        exact ⟨⟨fun d hd => by injection hd with hd; subst hd; rfl, fun h => by cases h⟩, hS, Below.refl _ _⟩
    · as_aux_lemma =>
        intro vals a W hS hL
        have e4 : a.tmps.getD 4 undef = .pointer (some ⟨g1, 0, none⟩) := hL.1
        clear hL
        refine lands_vB (run_ldg (cs := plc p) rtPl (HK1.out.below hS HK1.out.lt) (.tmp 4) rfl e4) ?_
        exact ⟨⟨fun d hd => by injection hd with hd; subst hd; rfl, fun h => by cases h⟩, hS, Below.refl _ _⟩
    · as_aux_lemma =>
        intro vals a W hS hL
        have e5 : a.tmps.getD 5 undef = .pointer (some ⟨g2, 0, none⟩) := hL.1
        clear hL
        refine lands_vB (run_ldg (cs := vac v) rtVa (HK2.out.below hS HK2.out.lt) (.tmp 5) rfl e5) ?_
        exact ⟨⟨fun d hd => by injection hd with hd; subst hd; rfl, fun h => by cases h⟩, hS, Below.refl _ _⟩
    · as_aux_lemma =>
        intro vals a W hS hL
        have e9 : a.tmps.getD 9 undef = .agg (enc N (.slice A n c) (.slice none 0 cn)).toArray := hL.1
        have e10 : a.tmps.getD 10 undef = .agg (plc p).toArray := hL.2.1
        have e11 : a.tmps.getD 11 undef = .agg (vac v).toArray := hL.2.2.1
        clear hL
        rw [Array.getD_eq_getD_getElem?] at e9 e10 e11
        go_simp
        refine (HP.out _ (HB.out.bel.trans (hS.mono HB.out.bel.size))).mono ?_
        rintro e W2 ⟨u, rfl, ho, hb⟩
        obtain ⟨Au, cu, eu, hcu, -, -⟩ := own_form ho
        subst eu
        exact ⟨_, rfl, ⟨fun d hd => by injection hd with hd; subst hd; exact ⟨Au, cu, rfl, hcu, own_mono ho (Nat.le_trans HB.out.bel.size hS.size)⟩, fun h => by cases h⟩, hS.trans (hb.mono hS.size), hb⟩
    · as_aux_lemma =>
        intro vals a W hS hL
        have e3 : a.tmps.getD 3 undef = .pointer (some ⟨g0, 0, none⟩) := hL.1
        clear hL
        go_simp
        exact ⟨⟨fun d hd => by injection hd with hd; subst hd; rfl, fun h => by cases h⟩, hS, (Below.refl _ _)⟩
    · as_aux_lemma =>
        intro vals a W hS hL
        have e13 : a.tmps.getD 13 undef = .pointer (some ⟨g0, 2, none⟩) := hL.1
        clear hL
        refine lands_vB (run_lde (HK0.out.below hS HK0.out.lt) rfl (.tmp 13) rfl e13) ?_
        exact ⟨⟨fun d hd => by injection hd with hd; subst hd; rfl, fun h => by cases h⟩, hS, Below.refl _ _⟩
    · as_aux_lemma =>
        intro vals a W hS hL
        have e14 : a.tmps.getD 14 undef = .slice none 0 cn := hL.1
        clear hL
        rw [Array.getD_eq_getD_getElem?] at e14
        go_simp
        refine (copy_nil).mono ?_
        rintro e W2 ⟨rfl, rfl⟩
        exact ⟨_, rfl, ⟨fun d hd => by injection hd with hd; subst hd; rfl, fun h => by cases h⟩, hS, Below.refl _ _⟩
    · as_aux_lemma =>
        intro vals a W hS hL
        have e8 : a.tmps.getD 8 undef = .int .i64 N := hL.1
        have e12 := hL.2.1
        have e15 : a.tmps.getD 15 undef = .slice none 0 0 := hL.2.2.1
        clear hL
        obtain ⟨Au, cu, e12, hcu, ho⟩ := e12
        refine lands_vB (run_bE (.tmp 8) (.tmp 12) (.tmp 15) rfl e8 e12 e15) ?_
        exact ⟨⟨fun d hd => by injection hd with hd; subst hd; exact ⟨Au, cu, rfl, hcu, ho⟩, fun h => by cases h⟩, hS, Below.refl _ _⟩
  · intro a W vals hd hsz hT hF hv hP hS
    obtain rfl : vals = [] := List.eq_nil_of_length_eq_zero hv
    have e6 : a.tmps.getD 6 undef = .pointer (some ⟨g3, 0, none⟩) := hT 6 (by simp)
    obtain ⟨Au, cu, e16, hcu, ho⟩ : OwE W w.heap.size N (putR L p v) (a.tmps.getD 16 undef) := hT 16 (by simp)
    have HO := Lib.hid ho
    replace HB := Lib.hid (HB.out.call hS)
    clear hT hF hP hS ho
    have hlo : w.heap.size ≤ g3 := HB.out.lo (g3, 28, enc 0 (.slice none 0 0) (.slice none 0 0)) (by simp)
    show Oper.wp _ _ _ _ _ _
    refine st_sub (.tmp 6) (.tmp 16) (vs := enc N (.slice Au (putR L p v).length cu) (.slice none 0 0)) rfl e6 e16 rtEnv.size enc_one (HB.out.get (i := 0) rfl) (Nat.le_refl 3) ?_
    intro W2 hk hK hsz2
    have hb2 : Below w.heap.size w W2 := HB.out.bel.trans (hK.below (B := w.heap.size) HB.out.bel.size fun i hi e => by omega)
    have ho2 := hK.own HO.out fun i hi e => own_ne HO.out (HB.out.get (i := 0) rfl) (by decide) (by rw [hi, e])
    have hk2 : Bk W2 g3 28 (enc N (.slice Au (putR L p v).length cu) (.slice none 0 0)).toArray := hk
    have hl : a.tmps[6]?.getD undef = .pointer (some ⟨g3, 0, none⟩) := by simpa using e6
    clear hk hK
    dsimp only
    repeat' (first | go_values | go_skip | go_guarded | go_step | go_upon)
    exact bodyPost_ret (res_g rtEnv rfl e6 hk2) hd ⟨_, rfl, ⟨Au, cu, rfl, hcu, ho2⟩, hb2⟩
end Go.Proofs.YtkjiokepihmpfaaDoor

