/- ptg.way.next, by their contracts. Condition: the way reads as steps. -/
/- ptg.put of a Num, a Cell, a Bin, by their contracts. No condition. -/
/- ptg.Encode, by their contracts. Condition: each node has its token put. -/
/- ptg.Encode, by their contracts. Condition: each node has its token put. -/
import Derived.Test.YtlaiocdnddnnaaaGreatDoorWn12
import Derived.Test.YtlaiocdnddnnaaaGreatDoorPu12
import Derived.Test.YtlaiocdnddnnaaaGreatDoorCx
set_option linter.unusedVariables false
set_option linter.unusedSimpArgs false
namespace Go.Proofs.YtlaiocdnddnnaaaGreatDoor
open Go.RowKit
theorem bk_load {W : World} {g : Nat} {ty : TypeId} {cs : List Value} (R : RowT ty cs.length) (hb : Bk W g ty cs.toArray) : (loadVar ty ⟨g, 0, none⟩).run Tryz.prog W = .ok (.agg cs.toArray) W := by
  obtain ⟨d, hu, hd⟩ := R.und; refine load_any W ⟨g, 0, none⟩ ty cs d (fun j u hj => ?_) hu hd R.size; have e : (⟨g, 0, none⟩ : Addr).add j = ⟨g, j, none⟩ := by unfold Addr.add; split <;> simp_all
  rw [e, hb.cell]
  simpa using hj
theorem res_en {W : World} {g : Nat} {fn : Func} {q r : Tmp} (h : fn.results = #[.cell q 47, .tmp r]) {tmps : Array Value} {p : Pay} {v u : Value} (hb : Bk W g 47 (ec p v).toArray) (hp : tmps.getD q undef = .pointer (some ⟨g, 0, none⟩)) (hr : tmps.getD r undef = u) :
    (results fn tmps).run Tryz.prog W = .ok (.tuple #[.agg (ec p v).toArray, u]) W := by
  have h0 : tmps[q]?.getD undef = .pointer (some ⟨g, 0, none⟩) := by simpa using hp
  have h1 : tmps[r]?.getD undef = u := by simpa using hr
  simp [results, h, h0, h1, asAddr, bk_load (cs := ec p v) rtExpr hb]
set_option maxRecDepth 20000 in
set_option maxHeartbeats 4000000 in
theorem next_no {w : World} {B base g : Nat} {v : Value} (h : Wy w B base g v []) : Calls Tryz.prog 25 #[.pointer (some ⟨g, 0, none⟩)] w fun e W => e = .returned (.tuple #[.agg (ec zp (.slice none 0 0)).toArray, .bool false]) ∧ Below w.heap.size w W := by
  obtain ⟨S, c, rfl, -⟩ := h.row.form; have HC := Lib.hid h; clear h; have HB : Hid (BX w [] w) := Lib.hid (BX.start w); go_enter Tryz.func25, Tryz.ntmps25
  repeat' (first | ((with_reducible show Oper.wp _ _ _ _ _ _); with_reducible refine is_al 47 rfl ?_; refine al_g HB 47 (ec zp (.slice none 0 0)) (by kernel_rfl) ?_; clear HB; intro g0 W HB; go_simp) | go_values | go_skip | go_guarded | go_step | go_upon)
  rename_i Q'
  have fc : W.cell? ⟨g, 0, none⟩ = some (.slice S ([] : List Wst).length c) := (HB.out.bel.cell (p := ⟨g, 0, none⟩) HC.out.box.lt).trans (HC.out.box.cell 0); simp only [List.length_nil] at fc; have hQ : ∀ (a : Act) (W' : World), a.defers = [] → a.tmps.getD 2 undef = .pointer (some ⟨g0, 0, none⟩) → a.tmps.getD 3 undef = .bool false → Bk W' g0 47 (ec zp (.slice none 0 0)).toArray → Below w.heap.size w W' → Q' .ret a W' := fun a W' hd h2 h3 hb hw => bodyPost_ret (res_en rfl hb h2 h3) hd ⟨rfl, hw⟩
  clear_value Q'
  refine wp_scope_ghost (fun (_ : Nat) (_ : Nat) (_ : Act) (_ : World) => False) ?_ ?_
  · repeat' (first | ((with_reducible show Oper.wp _ _ _ _ _ _); with_reducible refine stop_bd rfl ?_) | go_values | go_skip | go_guarded | go_step | go_upon)
    refine Lib.hid ?_; refine wp_b (v := .agg (ec zp (.slice none 0 0)).toArray) (by kernel_rfl) ?_; go_simp
    repeat' (first | ((with_reducible show Oper.wp _ _ _ _ _ _); with_reducible refine is_st 47 _ _ rfl ?_; refine st_ec 0 HB rfl _ _ rfl rfl rfl ?_; clear HB; intro W HB; dsimp only [List.set] at HB; go_simp) | go_values | go_skip | go_guarded | go_step | go_upon)
    exact hQ _ _ rfl rfl rfl (HB.out.get (i := 0) rfl) HB.out.bel
  · intro _ _ _ _ h; exact h.elim
def WnOk (w : World) (B base g : Nat) (v : Value) (T : List (Pay × Nat)) (e : Ending) (W : World) : Prop :=
  Keep (ApT g v) w W ∧ ∃ (p : Pay) (n : Nat) (A : Option Addr) (c : Nat) (v' : Value) (L' : List Wst), e = .returned (.tuple #[.agg (ec p (.slice A n c)).toArray, .bool true]) ∧ T = (p, n) :: remS L'.reverse ∧ Wy W B base g v' L' ∧ Lies w v v' ∧ ∀ x ∈ L', x.ks.length ≤ 100000
set_option maxRecDepth 20000 in
set_option maxHeartbeats 4000000 in
theorem next_some {w : World} {B base g : Nat} {v : Value} {L : List Wst} {s : Wst} (h : Wy w B base g v (L ++ [s])) (hb : base ≤ w.heap.size) (hT : (remS (L ++ [s]).reverse).length ≤ 100000) (hks : ∀ x ∈ L ++ [s], x.ks.length ≤ 100000) : Calls Tryz.prog 25 #[.pointer (some ⟨g, 0, none⟩)] w fun e W => WnOk w B base g v (remS (L ++ [s]).reverse) e W := by
  obtain ⟨S, c, hv, -⟩ := h.row.form; obtain ⟨m, hm⟩ : ∃ m, m = (L ++ [s]).length := ⟨_, rfl⟩
  rw [← hm] at hv; subst hv
  have fm : ((m : Int) == 0) = false := by
    rw [beq_eq_false_iff_ne, hm]; simp; omega
  clear hm; have HC := Lib.hid h; have hglt := h.box.lt; have hle := h.le; clear h; have HB : Hid (BX w [] w) := Lib.hid (BX.start w); go_enter Tryz.func25, Tryz.ntmps25
  repeat' (first | ((with_reducible show Oper.wp _ _ _ _ _ _); with_reducible refine is_al 47 rfl ?_; refine al_g HB 47 (ec zp (.slice none 0 0)) (by kernel_rfl) ?_; clear HB; intro g0 W HB; go_simp) | go_values | go_skip | go_guarded | go_step | go_upon)
  rename_i Q'
  have hbW := HB.out.bel; have hlo : w.heap.size ≤ g0 := HB.out.lo _ (List.mem_cons_self ..); have hk1 := HC.out.below (hbW.mono (B' := w.heap.size) (Nat.le_refl _)) (Nat.le_trans hle.1 hb); have fc : W.cell? ⟨g, 0, none⟩ = some (.slice S m c) := hk1.box.cell 0; have hgl := (HB.out.get (i := 0) rfl).lt; have HG : Hid (B ≤ base ∧ B ≤ g ∧ g ≠ g0 ∧ base ≤ W.heap.size ∧ g0 < W.heap.size ∧ B ≤ W.heap.size ∧ g < W.heap.size ∧ B ≤ g0) := Lib.hid ⟨hle.1, hle.2, by omega, by have := hbW.size; omega, hgl, by have := hbW.size; omega, by have := hbW.size; omega, by omega⟩
  have hQ : ∀ a W', WnF W B base g g0 (.slice S m c) (remS (L ++ [s]).reverse) a W' → Q' .ret a W' := by
    rintro a W' ⟨hd, h3, h2, p, n, A, c', v', L', hT', hr, hg', hO, hK, hl, hks'⟩; refine bodyPost_ret (res_en rfl hr (by rw [Array.getD_eq_getD_getElem?, h2]; rfl) (by rw [Array.getD_eq_getD_getElem?, h3]; rfl)) hd ⟨?_, p, n, A, c', v', L', rfl, hT', ⟨hg', hO, hle⟩, ?_, hks'⟩
    · exact (Keep.of_below (S := ApT g (.slice S m c)) hbW fun i hi h => by omega).trans hK fun i hi h => h.elim id fun e => by omega
    · rcases hl with h | ⟨j, h, hj⟩
      · exact .inl h
      · exact .inr ⟨j, h, Nat.le_trans hbW.size hj⟩
  clear_value Q'
  refine wp_scope_ghost (WnJ W B base g g0 (.slice S m c) (remS (L ++ [s]).reverse)) ?_ ?_
  · repeat' (first | go_values | go_skip | go_guarded | go_step | go_upon)
    go_step3
    rename_i Kk hKk
    refine hKk _ _ (wp_mono (wn_pass (Lib.hid hT) HG hQ (gh := cntL (s.ks.drop s.gone) + 1) rfl rfl ?_) ?_)
    · exact ⟨rfl, rfl, rfl, rfl, rfl, _, L, s, rfl, hk1.row, hk1.box, HB.out.get (i := 0) rfl, ⟨rfl, rfl, rfl, Nat.le_refl _, fun _ _ _ => rfl⟩, .inl rfl, rfl, Nat.lt_succ_self _, hks⟩
    · intro e a W hq
      cases e with
      | goto l =>
        obtain ⟨g', -, h⟩ := hq; exact ⟨g', h⟩
      | _ => exact hq
  · intro gh l a W' hJ; obtain rfl := hJ.1; exact ⟨_, rfl, wp_seq (wp_skip (wn_pass (Lib.hid hT) HG hQ rfl rfl hJ))⟩
end Go.Proofs.YtlaiocdnddnnaaaGreatDoor
namespace Go.Proofs.YtlaiocdnddnnaaaGreatDoor
open Go.RowKit
def PutC (p : Pay) (n : Nat) : Prop := ∀ (w : World) (A : Option Addr) (c : Nat), Calls Tryz.prog 26 #[.agg (ec p (.slice A n c)).toArray] w fun e W => ∃ v, e = .returned v ∧ W.ownsRow w.heap.size 5 1 v (tokL p n).length ((tokL p n).map bv) ∧ Below w.heap.size w W
set_option maxRecDepth 20000 in
set_option maxHeartbeats 4000000 in
theorem put_num {p : Pay} {n : Nat} (hk : p.kind = 1) (hv : p.vk = 1) : PutC p n := by
  have e1 : tokL p n = 31 :: lowB (two64 p.vm) 8 ++ [by8 p.vs] := by
    unfold tokL constL; rw [if_pos hk, if_pos hv]
  have hl : (31 :: lowB (two64 p.vm) 8 ++ [by8 p.vs]).length = 10 := by simp [lowB_len]
  unfold PutC; rw [e1, hl]; have HV := Lib.hid hv; clear e1 hl hv; intro w A c; have hk0 : (ec p (.slice A n c))[0]? = some (.int .i64 1) := by rw [← hk]; rfl
  have HK := Lib.hid hk0; clear hk0; have HB : Hid (BX w [] w) := Lib.hid (BX.start w); go_enter Tryz.func26, Tryz.ntmps26
  repeat' (first | ((with_reducible show Oper.wp _ _ _ _ _ _); with_reducible refine stop_bx _ rfl ?_) | go_values | go_skip | go_guarded | go_step | go_upon)
  refine Lib.hid ?_; refine al_g HB 47 (ec p (.slice A n c)) (by kernel_rfl) ?_; clear HB; intro g0 W HB; go_simp
  repeat' (first | ((with_reducible show Oper.wp _ _ _ _ _ _); with_reducible refine stop_ld (ty := 3) _ rfl ?_) | go_values | go_skip | go_guarded | go_step | go_upon)
  refine Lib.hid ?_; refine lf_int 0 HB rfl _ rfl rfl HK.out ?_; go_simp
  repeat' (first | ((with_reducible show Oper.wp _ _ _ _ _ _); with_reducible refine stop_ld (ty := 41) _ rfl ?_) | go_values | go_skip | go_guarded | go_step | go_upon)
  refine Lib.hid ?_; refine ldm_g (cs := vl 1 p.vm p.vs p.vt p.vb p.ve) rtVal _ rfl rfl (fun j u hu => ?_) ?_
  · have := HB.out.cell (i := 0) rfl (1 + j); refine (show (⟨g0, 1, none⟩ : Addr).add j = ⟨g0, 1 + j, none⟩ by unfold Addr.add; split <;> simp_all) ▸ this.trans ?_; have hj : j < 6 := (List.getElem?_eq_some_iff.1 hu).1
    match j, hj, hu with
    | 0, _, hu => rw [show (ec p (.slice A n c))[1 + 0]? = some (.int .i64 p.vk) from rfl, HV.out]; exact hu
    | 1, _, hu => exact hu
    | 2, _, hu => exact hu
    | 3, _, hu => exact hu
    | 4, _, hu => exact hu
    | 5, _, hu => exact hu
  go_simp
  repeat' (first | go_values | go_skip | go_guarded | go_step | go_upon)
  refine (putNum_at p.vm p.vs p.vt p.vb p.ve).mono ?_; rintro e W4 ⟨v, rfl, ho, hb⟩; have HO2 := Lib.hid (own_mono ho HB.out.bel.size); have HB := Lib.hid (HB.out.call hb); clear ho hb; dsimp only
  repeat' (first | go_values | go_skip | go_guarded | go_step | go_upon)
  go_ret; exact ⟨_, rfl, HO2.out, HB.out.bel⟩
set_option maxRecDepth 20000 in
set_option maxHeartbeats 4000000 in
theorem put_cell {p : Pay} {n : Nat} (hk : p.kind = 2) : PutC p n := by
  have e1 : tokL p n = placeL p := by
    unfold tokL; rw [if_neg (by omega), if_pos (.inl hk)]
  unfold PutC; rw [e1]; clear e1; intro w A c; have hk0 : (ec p (.slice A n c))[0]? = some (.int .i64 2) := by rw [← hk]; rfl
  have HK := Lib.hid hk0; clear hk0; have HB : Hid (BX w [] w) := Lib.hid (BX.start w); go_enter Tryz.func26, Tryz.ntmps26
  repeat' (first | ((with_reducible show Oper.wp _ _ _ _ _ _); with_reducible refine stop_bx _ rfl ?_) | go_values | go_skip | go_guarded | go_step | go_upon)
  refine Lib.hid ?_; refine al_g HB 47 (ec p (.slice A n c)) (by kernel_rfl) ?_; clear HB; intro g0 W HB; go_simp
  repeat' (first | ((with_reducible show Oper.wp _ _ _ _ _ _); with_reducible refine stop_ld (ty := 3) _ rfl ?_) | go_values | go_skip | go_guarded | go_step | go_upon)
  refine Lib.hid ?_; refine lf_int 0 HB rfl _ rfl rfl HK.out ?_; go_simp
  repeat' (first | ((with_reducible show Oper.wp _ _ _ _ _ _); with_reducible refine is_ld 47 _ rfl ?_; refine ld_ec 0 HB rfl _ rfl rfl ?_; go_simp) | go_values | go_skip | go_guarded | go_step | go_upon)
  refine (putCell_at p hk A n c).mono ?_; rintro e W4 ⟨v, rfl, ho, hb⟩; have HO2 := Lib.hid (own_mono ho HB.out.bel.size); have HB := Lib.hid (HB.out.call hb); clear ho hb; dsimp only
  repeat' (first | go_values | go_skip | go_guarded | go_step | go_upon)
  go_ret; exact ⟨_, rfl, HO2.out, HB.out.bel⟩
set_option maxRecDepth 20000 in
set_option maxHeartbeats 4000000 in
theorem put_bin {p : Pay} {n : Nat} (hk : p.kind = 8) : PutC p n := by
  have e1 : tokL p n = [by8 (2 + p.op)] := by
    unfold tokL; rw [if_neg (by omega), if_neg (by omega), if_neg (by omega), if_neg (by omega), if_pos hk]
  unfold PutC; rw [e1]; clear e1; intro w A c; have hk0 : (ec p (.slice A n c))[0]? = some (.int .i64 8) := by rw [← hk]; rfl
  have HK := Lib.hid hk0; clear hk0; have HB : Hid (BX w [] w) := Lib.hid (BX.start w); go_enter Tryz.func26, Tryz.ntmps26
  repeat' (first | ((with_reducible show Oper.wp _ _ _ _ _ _); with_reducible refine stop_bx _ rfl ?_) | go_values | go_skip | go_guarded | go_step | go_upon)
  refine Lib.hid ?_; refine al_g HB 47 (ec p (.slice A n c)) (by kernel_rfl) ?_; clear HB; intro g0 W HB; go_simp
  repeat' (first | ((with_reducible show Oper.wp _ _ _ _ _ _); with_reducible refine stop_ld (ty := 3) _ rfl ?_) | go_values | go_skip | go_guarded | go_step | go_upon)
  refine Lib.hid ?_; refine lf_int 0 HB rfl _ rfl rfl HK.out ?_; go_simp
  repeat' (first | ((with_reducible show Oper.wp _ _ _ _ _ _); (first | (with_reducible refine is_ld 3 _ rfl ?_; refine lf_int 0 HB rfl _ rfl rfl rfl ?_; go_simp) | with_reducible refine stop_bsu rfl ?_)) | go_values | go_skip | go_guarded | go_step | go_upon)
  refine Lib.hid ?_; have he : (2 + p.op % 256) % 256 = (2 + p.op) % 256 := by omega
  refine bs_g HB [.int .u8 ((2 + p.op % 256) % 256)] (e := 5) (n := 1) (by first | kernel_rfl | (go_simp; rfl)) ?_; clear HB; intro g1 W2 HB; go_simp
  repeat' (first | go_values | go_skip | go_guarded | go_step | go_upon)
  go_ret; refine ⟨_, rfl, ?_, HB.out.bel⟩; rw [List.map_cons, List.map_nil, bv_by8, ← he]; have := HB.out.get (i := 0) rfl; exact ⟨rfl, .inr ⟨g1, 1, _, rfl, HB.out.lo _ (List.mem_cons_self ..), this, Nat.le_refl _, by unfold maxLen; decide, rfl, rfl⟩⟩
end Go.Proofs.YtlaiocdnddnnaaaGreatDoor
namespace Go.Proofs.YtlaiocdnddnnaaaGreatDoor
open Go.RowKit
section
variable {o : Oper} {a : Act} {W : World} {K : Act → World → Prop} {Q : Exit → Act → World → Prop}
theorem stop_ap {s x : Operand} {t : TypeId} (ho : o.op = .call { callee := .builtin .append, args := #[s, x], argTypes := #[t, t] }) (h : Hid (o.wp Tryz.prog a W K Q)) : o.wp Tryz.prog a W K Q := h.out
end
def toks (T : List (Pay × Nat)) : List UInt8 := T.flatMap fun q => tokL q.1 q.2
theorem toks_app (S T : List (Pay × Nat)) : toks (S ++ T) = toks S ++ toks T := List.flatMap_append ..
def EnF (w : World) (Tt : List (Pay × Nat)) (a : Act) (W : World) : Prop :=
  a.defers = [] ∧ Below w.heap.size w W ∧ ∃ (u : Value) (e : Int), a.tmps.getD 2 undef = u ∧ a.tmps.getD 3 undef = .int .i64 e ∧
    (e = 0 ∧ (toks Tt).length ≤ 4096 ∧ W.ownsRow w.heap.size 5 1 u (toks Tt).length ((toks Tt).map bv) ∨ e = 4 ∧ u = .slice none 0 0 ∧ 4096 < (toks Tt).length)
def EnJ (w : World) (B base gw : Nat) (Tt : List (Pay × Nat)) (gh lb : Nat) (a : Act) (W : World) : Prop :=
  lb = 0 ∧ a.defers = [] ∧ a.tmps.size = 31 ∧ a.tmps.getD 6 undef = .pointer (some ⟨gw, 0, none⟩) ∧ ∃ (ov v : Value) (L : List Wst) (pre : List (Pay × Nat)), a.tmps.getD 5 undef = ov ∧ Wy W B base gw v L ∧ W.ownsRow w.heap.size 5 1 ov (toks pre).length ((toks pre).map bv) ∧
    Below w.heap.size w W ∧ Tt = pre ++ remS L.reverse ∧ (remS L.reverse).length < gh ∧ (∀ x ∈ L, x.ks.length ≤ 100000) ∧ (toks pre).length ≤ 4096 ∧ base ≤ W.heap.size
set_option maxRecDepth 20000 in
set_option maxHeartbeats 4000000 in
theorem en_pass {w : World} {B base gw gh : Nat} {Tt : List (Pay × Nat)} (HTL : Hid (Tt.length ≤ 100000)) (HG : Hid (B = w.heap.size)) (HP : Hid (∀ q ∈ Tt, PutC q.1 q.2 ∧ (tokL q.1 q.2).length ≤ 1000000)) {Q : Exit → Act → World → Prop} (hQ : ∀ a W, EnF w Tt a W → Q .ret a W) {r0 body rest : Code}
    (hbody : Tryz.f9.body = some (.seq r0 (.scope body))) (hr : findLabel body 0 = some (.seq .skip rest)) {a : Act} {W : World} (hJ : EnJ w B base gw Tt gh 0 a W) :
    rest.wp Tryz.prog (Exit.jumps (fun l' a' W' => ∃ g', g' < gh ∧ EnJ w B base gw Tt g' l' a' W') Q) a W := by
  unfold Tryz.f9 at hbody; simp only [Option.some.injEq] at hbody; have hb2 := Code.scope.inj (Code.seq.inj hbody).2; clear hbody; subst hb2; injection hr with hr; injection hr with _ hr; subst hr; obtain ⟨-, hd, hsz, e6, ov, v, L, pre, e5, hW, hO, hB, hT, hgh, hks, hpl, hbs⟩ := hJ; rw [act_lit 31 a hd hsz]; simp only [List.range, List.range.loop, List.map, e5, e6]; clear hd hsz e5 e6; generalize a.tmps.getD 0 undef = y0, a.tmps.getD 1 undef = y1, a.tmps.getD 2 undef = y2, a.tmps.getD 3 undef = y3, a.tmps.getD 4 undef = y4, a.tmps.getD 7 undef = y7, a.tmps.getD 8 undef = y8, a.tmps.getD 9 undef = y9, a.tmps.getD 10 undef = y10, a.tmps.getD 11 undef = y11, a.tmps.getD 12 undef = y12, a.tmps.getD 13 undef = y13, a.tmps.getD 14 undef = y14, a.tmps.getD 15 undef = y15, a.tmps.getD 16 undef = y16, a.tmps.getD 17 undef = y17, a.tmps.getD 18 undef = y18, a.tmps.getD 19 undef = y19, a.tmps.getD 20 undef = y20, a.tmps.getD 21 undef = y21, a.tmps.getD 22 undef = y22, a.tmps.getD 23 undef = y23, a.tmps.getD 24 undef = y24, a.tmps.getD 25 undef = y25, a.tmps.getD 26 undef = y26, a.tmps.getD 27 undef = y27, a.tmps.getD 28 undef = y28, a.tmps.getD 29 undef = y29, a.tmps.getD 30 undef = y30; have HQ := Lib.hid hQ
  rcases List.eq_nil_or_concat L with rfl | ⟨L0, s, rfl⟩
  · have HX := Lib.hid (And.intro hO (And.intro hB (And.intro hT hpl))); clear hO hB hT hpl hgh hks hbs hQ
    repeat' (first | go_values | go_skip | go_guarded | go_step | go_upon)
    refine (next_no hW).mono ?_; rintro e W1 ⟨rfl, hb⟩; have HB : Hid (BX W [] W1) := Lib.hid ((BX.start W).call hb); clear hb hW; dsimp only
    repeat' (first | ((with_reducible show Oper.wp _ _ _ _ _ _); (first | (with_reducible refine is_al 47 rfl ?_; refine al_g HB 47 (ec zp (.slice none 0 0)) (by kernel_rfl) ?_; clear HB; intro g0 W HB; go_simp) | (with_reducible refine is_st 47 _ _ rfl ?_; refine st_ec 0 HB rfl _ _ rfl rfl rfl ?_; clear HB; intro W HB; dsimp only [List.set] at HB; go_simp))) | go_values | go_skip | go_guarded | go_step | go_upon)
    obtain ⟨hO, hB, hT, hpl⟩ := HX.out; have hbW := HB.out.bel; simp only [List.reverse_nil, remS, List.append_nil] at hT; subst hT; exact HQ.out _ _ ⟨rfl, hB.trans (hbW.mono hB.size), ov, 0, rfl, rfl, .inl ⟨rfl, hpl, (Keep.of_below (S := fun i => _ ≤ i) hbW fun i _ h => h).own hO fun i hi h => by have := (hO.lt i hi).2; omega⟩⟩
  · simp only [List.concat_eq_append] at hW hT hgh hks
    have hrl : (remS (L0 ++ [s]).reverse).length ≤ 100000 := by
      have := HTL.out; rw [hT, List.length_append] at this; omega
    repeat' (first | go_values | go_skip | go_guarded | go_step | go_upon)
    refine (next_some hW hbs hrl hks).mono ?_; rintro e W1 ⟨hK, p, n, A, c, v', L', rfl, hT', hW', hl, hks'⟩
    have hbe : Below w.heap.size W W1 := hK.below hB.size fun i hi h => by
      have h1 := HG.out; have h2 := hW.le
      rcases h with h | h
      · omega
      · have := (hW.row.lt i h).1; omega
    have hO1 : W1.ownsRow w.heap.size 5 1 ov (toks pre).length ((toks pre).map bv) := hK.own hO fun i hi h => by
      rcases h with h | h
      · subst h; exact own_ne hO hW.box (by decide) hi
      · obtain ⟨SS, _, _, hr⟩ := hW.row.ex; exact own_own_ne hO hr (by decide) i hi h
    have hB1 := hB.trans hbe; have hmem : (p, n) ∈ Tt := by rw [hT, hT']; simp
    obtain ⟨hput, htok⟩ := HP.out (p, n) hmem; have hbs1 : base ≤ W1.heap.size := Nat.le_trans hbs hK.size; have hTn : Tt = (pre ++ [(p, n)]) ++ remS L'.reverse := by rw [hT, hT']; simp
    have hgn : (remS L'.reverse).length + 1 < gh := by
      rw [hT', List.length_cons] at hgh; exact hgh
    have hg0 : ∀ i, v'.ownBlock = some i ∨ i = gw → ov.ownBlock ≠ some i := fun i h hi => by
      rcases h with h | h
      · obtain ⟨SS, _, _, hr⟩ := hW'.row.ex; exact own_own_ne hO1 hr (by decide) i hi h
      · subst h; exact own_ne hO1 hW'.box (by decide) hi
    have HX := Lib.hid (And.intro hO1 (And.intro hB1 (And.intro hTn (And.intro hgn (And.intro hpl (And.intro hW' (And.intro hks' (And.intro hbs1 hg0)))))))); have HPU := Lib.hid hput; have HTK : Hid ((tokL p n).length ≤ 1000000) := Lib.hid htok; clear hO hB hT hpl hgh hks hbs hQ hK hT' hW' hl hks' hbe hO1 hB1 hmem hput htok hbs1 hTn hgn hW hrl hg0; have HB : Hid (BX W1 [] W1) := Lib.hid (BX.start W1); dsimp only
    repeat' (first | ((with_reducible show Oper.wp _ _ _ _ _ _); (first | (with_reducible refine is_al 47 rfl ?_; refine al_g HB 47 (ec zp (.slice none 0 0)) (by kernel_rfl) ?_; clear HB; intro g0 W HB; go_simp) | (with_reducible refine is_ld 47 _ rfl ?_; refine ld_ec 0 HB rfl _ rfl rfl ?_; go_simp) | (with_reducible refine is_st 47 _ _ rfl ?_; refine st_ec 0 HB rfl _ _ rfl rfl rfl ?_; clear HB; intro W HB; dsimp only [List.set] at HB; go_simp))) | go_values | go_skip | go_guarded | go_step | go_upon)
    refine (HPU.out _ A c).mono ?_; rintro e W3 ⟨v2, rfl, ho2, hb2⟩; obtain ⟨A2, c2, e2, hc2, -, hrd2⟩ := own_form ho2; subst e2; have hB3 : Below W1.heap.size W1 W3 := HB.out.bel.trans (hb2.mono HB.out.bel.size); have hO3 := (Keep.of_below (S := fun i => W1.heap.size ≤ i) hB3 fun i _ h => h).own HX.out.1 fun i hi h => by have := (HX.out.1.lt i hi).2; omega
    have hcl : (toks pre).length + (tokL p n).length ≤ 1004096 := by have := HX.out.2.2.2.2.1; have := HTK.out; omega
    have hwb : w.heap.size ≤ W3.heap.size := Nat.le_trans HX.out.2.1.size hB3.size; have HR := Lib.hid hrd2; clear hrd2 hc2 ho2 hb2; dsimp only
    repeat' (first | ((with_reducible show Oper.wp _ _ _ _ _ _); refine stop_ap (s := .tmp 24) (x := .tmp 26) (t := 35) rfl ?_) | go_values | go_skip | go_guarded | go_step | go_upon)
    refine Lib.hid ?_; refine wp_app bytesRow (.tmp 24) (.tmp 26) rfl rfl rfl hO3 HR.out (bv_one _) (by unfold maxLen; omega) (by omega) hwb fun u W4 ho4 hg4 hb4 => ?_; rw [← List.map_append] at ho4; obtain ⟨A4, c4, e4, -⟩ := own_form ho4; obtain ⟨m, hm⟩ : ∃ m, m = (toks pre).length + (tokL p n).length := ⟨_, rfl⟩
    rw [← hm] at e4; subst e4; have HM := Lib.hid hm; have H4 := Lib.hid (And.intro ho4 (And.intro hg4 (And.intro hb4 (And.intro hO3 hB3)))); clear ho4 hg4 hb4 hO3 hB3 hm HR HPU HTK; go_simp; have hb14 : Below w.heap.size w W4 := HX.out.2.1.trans ((H4.out.2.2.2.2.mono HX.out.2.1.size).trans H4.out.2.2.1)
    by_cases hlong : 4096 < m
    · have hl' : (4096 : Int) < (m : Int) := by omega
      repeat' (first | go_values | go_skip | go_guarded | go_step | go_upon)
      refine HQ.out _ _ ⟨rfl, hb14, .slice none 0 0, 4, rfl, rfl, .inr ⟨rfl, rfl, ?_⟩⟩; rw [HX.out.2.2.1, toks_app, toks_app, List.length_append, List.length_append]; simp only [toks, List.flatMap_cons, List.flatMap_nil, List.append_nil]; have := HM.out; unfold toks at this; omega
    · have hl' : ¬(4096 : Int) < (m : Int) := by omega
      repeat' (first | go_values | go_skip | go_guarded | go_step | go_upon)
      refine wp_goto ?_
      show ∃ g', g' < gh ∧ EnJ w B base gw Tt g' 0 _ _
      obtain ⟨hO1, hB1, hTn, hgn, hpl, hW', hks', hbs1, hg0⟩ := HX.out; obtain ⟨ho4, hg4, hb4, hO3, hB3⟩ := H4.out; have hBW : B ≤ W1.heap.size := by have := HG.out; have := hB1.size; omega
      have hW3 := hW'.below hB3 hBW; have hK4 : Keep (fun i => some i = ov.ownBlock) W3 W4 := Keep.of_grew hg4 fun i e => e; have hmv : Move W3 (· < B) W4 (· < B) := hK4.move (fun i hi => ⟨by have := hB3.size; omega, fun e => by have := (hO3.lt i e.symm).1; have := HG.out; omega⟩) fun i hi => hi; have htk : toks (pre ++ [(p, n)]) = toks pre ++ tokL p n := by rw [toks_app]; simp [toks]
      refine ⟨(remS L'.reverse).length + 1, hgn, rfl, rfl, rfl, rfl, _, v', L', pre ++ [(p, n)], rfl, ⟨hg4.bk hO3 hW3.box (by decide), hW3.row.keep hK4 (fun i hi e => hg0 i (.inl hi) e.symm) hmv, hW3.le⟩, ?_, hb14, hTn, Nat.lt_succ_self _, hks', ?_, ?_⟩
      · rw [htk, List.length_append]; exact ho4
      · rw [htk, List.length_append]; have := HM.out; omega
      · have := hB3.size; have := hg4.grown.size; omega
end Go.Proofs.YtlaiocdnddnnaaaGreatDoor
namespace Go.Proofs.YtlaiocdnddnnaaaGreatDoor
open Go.RowKit
theorem bk_own {W : World} {g n k base : Nat} {e : TypeId} {cs : List Value} (h : Bk W g e cs.toArray) (hb : base ≤ g) (hl : cs.length = n * k) (hn : n ≤ maxLen) : W.ownsRow base e k (.slice (some ⟨g, 0, none⟩) n n) n cs :=
  ⟨hl, .inr ⟨g, n, cs.toArray, rfl, hb, h, Nat.le_refl _, hn, by simpa using hl, by simp [← hl]⟩⟩
def EncOk (w : World) (t : Tr) (e : Ending) (W : World) : Prop := Below w.heap.size w W ∧ ∃ (u : Value) (z : Int), e = .returned (.tuple #[u, .int .i64 z]) ∧
  (z = 0 ∧ (enT t).length ≤ 4096 ∧ W.ownsRow w.heap.size 5 1 u (enT t).length ((enT t).map bv) ∨ z = 4 ∧ u = .slice none 0 0 ∧ 4096 < (enT t).length)
set_option maxRecDepth 20000 in
set_option maxHeartbeats 4000000 in
theorem encode_ok {w : World} (HV : Val w) {p : Pay} {ks : List Tr} {A : Option Addr} {c : Nat} (h : AtT w p ks A c) (hC : cntT (.mk p ks) ≤ 100000) (hs : ShortN (ndT (.mk p ks))) (HP : Hid (∀ q ∈ poT (.mk p ks), PutC q.1 q.2 ∧ (tokL q.1 q.2).length ≤ 1000000)) (hz : ckT oneE (.mk p ks) = 0) :
    Calls Tryz.prog 9 #[.agg (ec p (.slice A ks.length c)).toArray] w fun e W => EncOk w (.mk p ks) e W := by
  have HC : Hid (∀ (W : World), Below w.heap.size w W → Calls Tryz.prog 24 #[.agg (ec p (.slice A ks.length c)).toArray] W fun e W' => e = .returned (.int .i64 0) ∧ Below W.heap.size W W') := Lib.hid fun W hb => by
    have := check_t (HV.below hb) (h.below hb) hC hs
    rwa [hz] at this
  have hkl : ks.length ≤ 100000 := by
    have := len_cnt ks; simp only [cntT] at hC; omega
  have HT : Hid ((poT (.mk p ks)).length ≤ 100000) := Lib.hid (by rw [po_lenT]; exact hC); have HA := Lib.hid h; obtain ⟨m, hm⟩ : ∃ m, m = ks.length := ⟨_, rfl⟩
  have HM := Lib.hid hm; rw [← hm] at HC ⊢; clear h hC hs hz HV hm; have HB : Hid (BX w [] w) := Lib.hid (BX.start w); go_enter Tryz.func9, Tryz.ntmps9
  repeat' (first | ((with_reducible show Oper.wp _ _ _ _ _ _); with_reducible refine stop_bx _ rfl ?_) | go_values | go_skip | go_guarded | go_step | go_upon)
  refine Lib.hid ?_; refine al_g HB 47 (ec p (.slice A m c)) (by kernel_rfl) ?_; clear HB; intro g0 W HB; go_simp
  repeat' (first | go_values | go_skip | go_guarded | go_step | go_upon)
  rename_i Q'
  have hQ : ∀ a W, EnF w (poT (.mk p ks)) a W → Q' .ret a W := by
    rintro a W ⟨hd, hb, u, z, e2, e3, hx⟩; rw [Array.getD_eq_getD_getElem?] at e2 e3; refine bodyPost_ret (v := .tuple #[u, .int .i64 z]) ?_ hd ⟨hb, u, z, rfl, hx⟩; simp [results, Tryz.results9, go_sem, e2, e3]
  clear_value Q'
  refine wp_scope_ghost (fun gh l a W => ∃ base gw, EnJ w w.heap.size base gw (poT (.mk p ks)) gh l a W) ?_ ?_
  · repeat' (first | ((with_reducible show Oper.wp _ _ _ _ _ _); with_reducible refine is_ld 47 _ rfl ?_; refine ld_ec 0 HB rfl _ rfl rfl ?_; go_simp) | go_values | go_skip | go_guarded | go_step | go_upon)
    refine (HC.out _ HB.out.bel).mono ?_; rintro e W1 ⟨rfl, hb⟩; replace HB := Lib.hid (HB.out.call hb); clear hb; dsimp only
    repeat' (first | ((with_reducible show Oper.wp _ _ _ _ _ _); (first | (with_reducible refine is_ld 47 _ rfl ?_; refine ld_ec 0 HB rfl _ rfl rfl ?_; go_simp) | with_reducible refine stop_bd rfl ?_)) | go_values | go_skip | go_guarded | go_step | go_upon)
    refine Lib.hid ?_; refine wp_b (run_step (.tmp 14) rfl rfl) ?_; go_simp
    repeat' (first | ((with_reducible show Oper.wp _ _ _ _ _ _); with_reducible refine stop_bsu rfl ?_) | go_values | go_skip | go_guarded | go_step | go_upon)
    refine Lib.hid ?_; refine bs_g HB (sc p (.slice A m c) 0) (e := 72) (n := 1) (run_steps (.tmp 15) rfl rfl) ?_; clear HB; intro g1 Wb HB; go_simp
    repeat' (first | ((with_reducible show Oper.wp _ _ _ _ _ _); with_reducible refine stop_al rfl ?_) | go_values | go_skip | go_guarded | go_step | go_upon)
    refine Lib.hid ?_; refine al_g HB 74 [.slice none 0 0] (by kernel_rfl) ?_; clear HB; intro g2 Wc HB; go_simp
    repeat' (first | ((with_reducible show Oper.wp _ _ _ _ _ _); with_reducible refine stop_st _ _ rfl ?_) | go_values | go_skip | go_guarded | go_step | go_upon)
    refine Lib.hid ?_; refine st_hdr _ _ rfl rfl rfl (HB.out.cell (i := 0) rfl 0) (HB.out.frozen (i := 0) rfl 0) ?_; intro W2 hW2
    repeat' (first | go_values | go_skip | go_guarded | go_step | go_upon)
    have hm := HM.out; subst hm; have hK2 : Keep (fun i => i = g2) Wc W2 := by rw [hW2]; exact (Keep.refl (fun i => i = g2) Wc).setCell (p := ⟨g2, 0, none⟩) (fun _ => rfl) _
    have hbg : Bk W2 g2 74 #[.slice (some ⟨g1, 0, none⟩) 1 1] := by rw [hW2]; exact (HB.out.get (i := 0) rfl).set_ 0 _
    have hlo2 : w.heap.size ≤ g2 := HB.out.lo (g2, 74, [.slice none 0 0]) (by simp); have hlo1 : w.heap.size ≤ g1 := HB.out.lo (g1, 72, sc p (.slice A ks.length c) 0) (by simp); have hne : ¬ g1 = g2 := by have := HB.out.nd; simp at this; omega
    have hB2 : Below w.heap.size w W2 := HB.out.bel.trans (hK2.below HB.out.bel.size fun i hi e => by omega); have h1 : Bk W2 g1 72 (sc p (.slice A ks.length c) 0).toArray := hK2.bk (HB.out.get (i := 1) rfl) hne
    have hO : OwnF stpF W2 (· < w.heap.size) w.heap.size 72 (.slice (some ⟨g1, 0, none⟩) 1 1) [⟨p, ks, 0⟩] :=
      ⟨[(sc p (.slice A ks.length c) 0, ⟨p, ks, 0⟩)], rfl, fun x hx => by
        obtain rfl := List.mem_singleton.1 hx
        exact ⟨A, c, rfl, HA.out.1, HA.out.2.below hB2 (Nat.le_refl _)⟩, by rw [List.flatMap_cons, List.flatMap_nil, List.append_nil]; exact bk_own (n := 1) (k := 19) h1 hlo1 rfl (by decide)⟩
    go_step3
    rename_i Kk hKk
    refine hKk _ _ (wp_mono (en_pass HT (Lib.hid rfl) HP hQ (base := w.heap.size) (gw := g2) (gh := (remS [(⟨p, ks, 0⟩ : Wst)].reverse).length + 1) rfl rfl ?_) ?_)
    · refine ⟨rfl, rfl, rfl, rfl, .slice none 0 0, _, [⟨p, ks, 0⟩], [], rfl, ⟨hbg, hO, Nat.le_refl _, hlo2⟩, World.ownsRow_nil _ _ _ _, hB2, ?_, Nat.lt_succ_self _, ?_, by simp [toks], hB2.size⟩
      · exact (rem_start p ks).symm
      · intro x hx; obtain rfl := List.mem_singleton.1 hx; exact hkl
    · intro e a W hq
      cases e with
      | goto l =>
        obtain ⟨g', h1, h⟩ := hq; exact ⟨g', _, _, h⟩
      | _ => exact hq
  · intro gh l a W' ⟨base, gw, hJ⟩; obtain rfl := hJ.1; refine ⟨_, rfl, wp_seq (wp_skip (wp_mono (en_pass HT (Lib.hid rfl) HP hQ rfl rfl hJ) ?_))⟩; intro e a W hq
    cases e with
    | goto l =>
      obtain ⟨g', h1, h⟩ := hq; exact ⟨g', h1, _, _, h⟩
    | _ => exact hq
end Go.Proofs.YtlaiocdnddnnaaaGreatDoor
