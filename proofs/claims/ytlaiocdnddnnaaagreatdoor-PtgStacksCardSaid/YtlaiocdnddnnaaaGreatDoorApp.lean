/- An act by its slots: for the end of a region that leaves an act by facts. No condition. -/
/- Steps of the walk at formulas as a whole: their eighteen cells are read, stored, put into a row without being looked into. No condition. -/
/- expr's stack: start, depth, next, by their contracts. Conditions: what is read is there. -/
/- 'p.f = append(p.f, ..)' through a pointer, in a region that draws its order: what holds between its operations. No condition. -/
import Derived.Test.YtlaiocdnddnnaaaGreatDoorSettle
import Derived.Test.YtlaiocdnddnnaaaGreatDoorDc
import Derived.Test.YtlaiocdnddnnaaaGreatDoorProg
import Derived.Deep.MidRow
import Derived.Test.YtlaiocdnddnnaaaGreatDoorLast
set_option linter.unusedVariables false
set_option linter.unusedSimpArgs false
namespace Go.Proofs.YtlaiocdnddnnaaaGreatDoor
open Go.RowKit
theorem act_lit (n : Nat) (x : Act) (hd : x.defers = []) (hs : x.tmps.size = n) : x = { tmps := ((List.range n).map fun i => x.tmps.getD i undef).toArray, defers := [] } := by
  obtain ⟨t, d⟩ := x; simp only at hd hs ⊢; subst hd
  congr 1
  apply Array.ext
  · simp [hs]
  · intro i h1 h2; simp [Array.getD_eq_getD_getElem?, h1]
end Go.Proofs.YtlaiocdnddnnaaaGreatDoor
namespace Go.Proofs.YtlaiocdnddnnaaaGreatDoor
open Go.RowKit
theorem ec_len (p : Pay) (k : Value) : (ec p k).length = 18 := rfl
theorem ec_size (p : Pay) (k : Value) : (ec p k).toArray.size = 18 := rfl
theorem ec_one (p : Pay) {A : Option Addr} {n c : Nat} : ∀ u ∈ ec p (.slice A n c), u.oneCell' = true := by
  intro u hu; simp only [ec, pc, List.cons_append, List.nil_append, List.mem_cons, List.not_mem_nil, or_false] at hu
  rcases hu with rfl | rfl | rfl | rfl | rfl | rfl | rfl | rfl | rfl | rfl | rfl | rfl | rfl | rfl | rfl | rfl | rfl | rfl <;> rfl
theorem set_list {l m : List Value} {o : Nat} {v : Value} (h : o < l.length) : (l.set o v).take (o + 1) ++ m = l.take o ++ v :: m := by
  rw [List.take_set, List.take_succ_eq_append_getElem h, List.set_append_right _ _ (by rw [List.length_take]; omega)]; simp [Nat.min_eq_left (Nat.le_of_lt h)]
theorem setCells_size {g : Nat} : ∀ (l : List Value) (o : Nat) (W : World), (W.setCells g o l).heap.size = W.heap.size
  | [], _, _ => rfl
  | v :: l, o, W => by
    rw [World.setCells, setCells_size l (o + 1)]; simp [World.setCell]
theorem load_any {P : Program} (w : World) (q : Addr) (ty : TypeId) (cs : List Value) (d : TypeDesc) (hc : ∀ (j : Nat) (u : Value), cs[j]? = some u → w.cell? (q.add j) = some u)
    (hu : P.underlying ty = some d) (hd : d.isRow = true) (hi : (P.info? ty).map (·.size) = some cs.length) : (loadVar ty q).run P w = .ok (.agg cs.toArray) w := by
  have hl : (loadCells q cs.length).run P w = .ok cs.toArray w := run_loadCells_list (P := P) w q cs hc
  cases hq : P.info? ty with
  | none => simp [hq] at hi
  | some i =>
    have hs : i.size = cs.length := by simpa [hq] using hi
    have hagg : (isAgg ty).run P w = .ok true w := by
      unfold isAgg; rw [Sem.run_bind, run_underlying hu w]
      cases d <;> simp_all
    simp [loadVar, Sem.run_bind, hagg, sizeOf, typeInfo, hq, hs, hl]
theorem setCells_bk {g : Nat} {t : TypeId} : ∀ (l : List Value) (o : Nat) (cs : List Value) (W : World), Bk W g t cs.toArray → o + l.length ≤ cs.length → Bk (W.setCells g o l) g t (cs.take o ++ l ++ cs.drop (o + l.length)).toArray
  | [], o, cs, W, h, _ => by simpa [World.setCells] using h
  | v :: l, o, cs, W, h, hl => by
    simp only [List.length_cons] at hl; have h1 := h.set_ o v; rw [List.setIfInBounds_toArray] at h1; have h2 := setCells_bk l (o + 1) (cs.set o v) _ h1 (by rw [List.length_set]; omega); rw [World.setCells]
    have e : (cs.set o v).take (o + 1) ++ l ++ (cs.set o v).drop (o + 1 + l.length) = cs.take o ++ v :: l ++ cs.drop (o + (v :: l).length) := by
      rw [set_list (by omega), List.drop_set_of_lt (by omega), List.length_cons, show o + 1 + l.length = o + (l.length + 1) by omega]
    rw [e] at h2; exact h2
theorem setCells_keep {g : Nat} : ∀ (l : List Value) (o : Nat) (W : World), Keep (fun i => i = g) W (W.setCells g o l)
  | [], _, W => Keep.refl _ _
  | v :: l, o, W => by
    rw [World.setCells]; exact ((Keep.refl (fun i => i = g) W).setCell (p := ⟨g, o, none⟩) (fun _ => rfl) v).trans (setCells_keep l (o + 1) _) fun _ _ h => h
section
variable {o : Oper} {a : Act} {W : World} {K : Act → World → Prop} {Q : Exit → Act → World → Prop} {p : Pay} {k : Value} {g : Nat}
theorem ld_p (x : Operand) (ho : o.op = .load 47 x) (hx : a.eval x = .pointer (some ⟨g, 0, none⟩)) (hb : Bk W g 47 (ec p k).toArray) (h : K (a.put o.dst (.agg (ec p k).toArray)) W) : o.wp Tryz.prog a W K Q :=
  wp_load_row _ x ho g hx _ _ (0, 0) _ hb Tryz.underlying47 rfl (by rw [ec_size]; kernel_rfl) h
theorem ld_r (x : Operand) (ho : o.op = .load 32 x) (hx : a.eval x = .pointer (some ⟨g, 0, none⟩)) (hb : Bk W g 32 (ec p k).toArray) (h : K (a.put o.dst (.agg (ec p k).toArray)) W) : o.wp Tryz.prog a W K Q :=
  wp_load_row _ x ho g hx _ _ (0, 0) _ hb Tryz.underlying32 rfl (by rw [ec_size]; kernel_rfl) h
theorem ld_pm (x : Operand) {q : Addr} (ho : o.op = .load 47 x) (hx : a.eval x = .pointer (some q)) (hb : ∀ (j : Nat) (u : Value), (ec p k)[j]? = some u → W.cell? (q.add j) = some u) (h : K (a.put o.dst (.agg (ec p k).toArray)) W) : o.wp Tryz.prog a W K Q := by
  unfold Oper.wp execOp; simp only [ho, hx, Instr.loadAt, Instr.sureAddr, Sem.run_bind, Sem.run_pure, Result.andThen_ok, load_any W q _ (ec p k) _ hb Tryz.underlying47 rfl (by rw [ec_len]; kernel_rfl)]; exact h
theorem st_p (x y : Operand) {A : Option Addr} {n c : Nat} {cs : List Value} (ho : o.op = .store 47 x y) (hx : a.eval x = .pointer (some ⟨g, 0, none⟩)) (hy : a.eval y = .agg (ec p (.slice A n c)).toArray)
    (hb : Bk W g 47 cs.toArray) (hl : cs.length = 18) (h : ∀ W', Bk W' g 47 (ec p (.slice A n c)).toArray → Keep (fun i => i = g) W W' → W'.heap.size = W.heap.size → K (a.put o.dst undef) W') : o.wp Tryz.prog a W K Q := by
  refine wp_store_mid _ x y ho g 0 (ec p (.slice A n c)).toArray hx hy (fun j hj => ?_) (by rw [ec_size]; kernel_rfl) (all_oneCell_toArray (ec_one p)) ?_
  · rw [ec_size] at hj; rw [Nat.zero_add, hb.cell, hb.frozen]; exact ⟨by simp; omega, rfl⟩
  · have h2 := setCells_bk (ec p (.slice A n c)) 0 cs W hb (by rw [ec_len]; omega); have h3 := setCells_keep (g := g) (ec p (.slice A n c)) 0 W; refine h _ ?_ h3 ?_
    · simpa [ec_len, hl, List.drop_eq_nil_of_le] using h2
    · exact setCells_size _ _ _
theorem st_sub {ty T : TypeId} {off : Nat} (x y : Operand) {cs vs : List Value} (ho : o.op = .store ty x y) (hx : a.eval x = .pointer (some ⟨g, off, none⟩)) (hy : a.eval y = .agg vs.toArray) (hi : (Tryz.prog.info? ty).map (·.size) = some vs.length)
    (h1 : ∀ v ∈ vs, v.oneCell' = true) (hb : Bk W g T cs.toArray) (hl : off + vs.length ≤ cs.length) (h : ∀ W', Bk W' g T (cs.take off ++ vs ++ cs.drop (off + vs.length)).toArray → Keep (fun i => i = g) W W' → W'.heap.size = W.heap.size → K (a.put o.dst undef) W') : o.wp Tryz.prog a W K Q := by
  refine wp_store_mid _ x y ho g off vs.toArray hx hy (fun j hj => ?_) (by rw [List.size_toArray]; exact hi) (all_oneCell_toArray h1) (h _ (setCells_bk vs off cs W hb hl) (setCells_keep _ _ _) (setCells_size _ _ _)); rw [List.size_toArray] at hj; rw [hb.cell, hb.frozen]; exact ⟨by simp; omega, rfl⟩
theorem stop_w {ty : TypeId} (x y : Operand) (ho : o.op = .store ty x y) (h : Hid (o.wp Tryz.prog a W K Q)) : o.wp Tryz.prog a W K Q := h.out
theorem stop_p (x : Operand) (ho : o.op = .load 47 x) (h : Hid (o.wp Tryz.prog a W K Q)) : o.wp Tryz.prog a W K Q := h.out
theorem stop_i (x : Operand) (ho : o.op = .load 3 x) (h : Hid (o.wp Tryz.prog a W K Q)) : o.wp Tryz.prog a W K Q := h.out
theorem stop_s (x y : Operand) (ho : o.op = .store 47 x y) (h : Hid (o.wp Tryz.prog a W K Q)) : o.wp Tryz.prog a W K Q := h.out
theorem stop_b {ps : Array (Nat × Operand)} (ho : o.op = .build 47 ps) (h : Hid (o.wp Tryz.prog a W K Q)) : o.wp Tryz.prog a W K Q := h.out
theorem stop_bs {n : Nat} {ps : Array (Nat × Operand)} (ho : o.op = .buildSlice 45 n ps) (h : Hid (o.wp Tryz.prog a W K Q)) : o.wp Tryz.prog a W K Q := h.out
theorem wp_b {v : Value} (hr : (execOp a.eval o).run Tryz.prog W = .ok (.value v) W) (h : K (a.put o.dst v) W) : o.wp Tryz.prog a W K Q := by
  unfold Oper.wp; rw [hr]; exact h
theorem wp_v {v : Value} {W' : World} (hr : (execOp a.eval o).run Tryz.prog W = .ok (.value v) W') (h : K (a.put o.dst v) W') : o.wp Tryz.prog a W K Q := by
  unfold Oper.wp; rw [hr]; exact h
theorem bs_1 (x : Operand) (ho : o.op = .buildSlice 45 1 #[(0, x)]) (hx : a.eval x = .agg (ec p k).toArray) (h : K (a.put o.dst (.slice (some ⟨W.heap.size, 0, none⟩) 1 1)) (W.alloc (.cells (ec p k).toArray 47))) : o.wp Tryz.prog a W K Q := by
  unfold Oper.wp execOp; rw [ho]; simp only [List.map_toArray, List.map_cons, List.map_nil, hx]; clear ho hx; simp only [ec, pc, List.cons_append, List.nil_append] at h ⊢; go_simp; exact h
end
end Go.Proofs.YtlaiocdnddnnaaaGreatDoor
namespace Go.Proofs.YtlaiocdnddnnaaaGreatDoor
open Go.RowKit
theorem made_row {W : World} {base g : Nat} {t : TypeId} {x : Value} (hb : base ≤ g) (hg : W.heap.size = g) : (W.alloc (.cells #[x] t)).ownsRow base t 1 (.slice (some ⟨g, 0, none⟩) 1 1) 1 [x] := by
  subst hg; exact ⟨rfl, .inr ⟨W.heap.size, 1, #[x], rfl, hb, heap_alloc_new W _, by omega, by simp [maxLen], rfl, rfl⟩⟩
theorem size3 (w : World) (o o' o'' : Obj) : (((w.alloc o).alloc o').alloc o'').heap.size = w.heap.size + 3 := by simp
theorem row_one {W : World} {g B c : Nat} {p : Pay} {ks : List Tr} {A : Option Addr} (hk : Bk W g 47 (ec p (.slice A ks.length c)).toArray) (hg : g < B) (hc : ks.length ≤ c) (hr : RowF treeF W (· < B) A ks.length ks) :
    RowF treeF W (· < B) (some ⟨g, 0, none⟩) [Tr.mk p ks].length [.mk p ks] := by
  refine ⟨rfl, fun _ => ⟨_, rfl, hg, fun i t hi => ?_⟩⟩
  match i, hi with
  | 0, hi =>
    simp only [List.getElem?_cons_zero, Option.some.injEq] at hi; subst hi; refine ⟨ec p (.slice A ks.length c), tree_mk.2 ⟨A, c, rfl, hc, hr⟩, fun j u hu => ?_⟩; rw [show 0 * treeF.k + j = j by simp, addr_zero, hk.cell]
    simpa using hu
set_option maxRecDepth 20000 in
theorem start_any {w : World} {p : Pay} {ks : List Tr} {A : Option Addr} {c : Nat} (hc : ks.length ≤ c) (hr : RowF treeF w (· < w.heap.size) A ks.length ks) :
    Calls Tryz.prog 37 #[.agg (ec p (.slice A ks.length c)).toArray] w fun e W => ∃ v xs, e = .returned v ∧ Below w.heap.size w W ∧ W.heap.size = w.heap.size + 3 ∧ W.ownsRow (w.heap.size + 2) 45 1 v 1 xs ∧ Hdr W (w.heap.size + 2) xs [[.mk p ks]] := by
  have HR : Hid (ks.length ≤ c ∧ RowF treeF w (· < w.heap.size) A ks.length ks) := Lib.hid ⟨hc, hr⟩; have HB := Lib.hid (bel2 w); have HZ := Lib.hid (size3 w); have hbx := Bk.new w 47 (ec p (.slice A ks.length c)).toArray; clear hc hr; generalize hes : ec p (.slice A ks.length c) = es at *; go_enter Tryz.func37, Tryz.ntmps37; subst hes
  repeat' (first | ((with_reducible apply ld_p); exact rfl; exact rfl; assumption; go_simp) | ((with_reducible apply bs_1); exact rfl; exact rfl; go_simp) | go_values | go_skip | go_guarded | go_step | go_upon)
  go_ret; obtain ⟨hc, hr⟩ := HR.out; refine ⟨.slice (some ⟨w.heap.size + 2, 0, none⟩) 1 1, [.slice (some ⟨w.heap.size + 1, 0, none⟩) 1 1], rfl, HB.out _ _ _, HZ.out _ _ _, made_row (Nat.le_refl _) (by simp), ?_⟩; have hb := HB.out (.cells (ec p (.slice A ks.length c)).toArray 47) (.cells (ec p (.slice A ks.length c)).toArray 47) (.cells #[.slice (some ⟨w.heap.size + 1, 0, none⟩) 1 1] 45); have k1 : Bk ((w.alloc (.cells (ec p (.slice A ks.length c)).toArray 47)).alloc (.cells (ec p (.slice A ks.length c)).toArray 47)) (w.heap.size + 1) 47 (ec p (.slice A ks.length c)).toArray := by simpa using Bk.new (w.alloc (.cells (ec p (.slice A ks.length c)).toArray 47)) 47 (ec p (.slice A ks.length c)).toArray
  have k2 := k1.alloc (.cells #[.slice (some ⟨w.heap.size + 1, 0, none⟩) 1 1] 45); generalize ((w.alloc (.cells (ec p (.slice A ks.length c)).toArray 47)).alloc (.cells (ec p (.slice A ks.length c)).toArray 47)).alloc (.cells #[.slice (some ⟨w.heap.size + 1, 0, none⟩) 1 1] 45) = W at *; intro i ts hi
  match i, hi with
  | 0, hi =>
    simp only [List.getElem?_cons_zero, Option.some.injEq] at hi; subst hi; exact ⟨_, 1, rfl, by simp, row_one k2 (by omega) hc ((hr.below hb (Nat.le_refl _)).mono (by omega))⟩
theorem depth_s {w : World} {S : Option Addr} {n c : Nat} : Calls Tryz.prog 61 #[.slice S n c] w fun e W => e = .returned (.int .i64 n) ∧ W = w := by
  go_enter Tryz.func61, Tryz.ntmps61; go_wp2; go_ret; exact ⟨rfl, rfl⟩
end Go.Proofs.YtlaiocdnddnnaaaGreatDoor
namespace Go.Proofs.YtlaiocdnddnnaaaGreatDoor
open Go.RowKit Go.Lib
theorem hdrRow : ElemRow Tryz.prog 96 45 (.slice none 0 0) 1 24 := by
  obtain ⟨i, hi, h0, h1, h2⟩ := info_parts (P := Tryz.prog) (e := 45) (z := .slice none 0 0) (size := 1) (bytes := 24) (by kernel_rfl); exact ⟨Tryz.underlying96, ⟨i, hi, h0, h1, h2⟩, rfl, by omega⟩
theorem lands_app {P : Program} {w : World} {t e size bytes m c n base B : Nat} {z v : Value} {A : Option Addr} {xs news : List Value} {S : World → Prop} {F : World → World → Prop} {R : Value → World → Prop} {o : Oper} {a : Act} (E : ElemRow P t e z size bytes) (s x : Operand)
    (ho : o.op = .call { callee := .builtin .append, args := #[s, x], argTypes := #[t, t] })
    (hs : a.eval s = v) (hx : a.eval x = .slice A m c) (hown : w.ownsRow base e size v n xs) (hr : Rd w B size A m news) (h1 : ∀ u ∈ news, u.oneCell' = true)
    (h63 : n + m ≤ maxLen) (hbytes : (n + m) * bytes ≤ 140737488355328) (hbase : base ≤ w.heap.size)
    (h : ∀ v' w', w'.ownsRow base e size v' (n + m) (xs ++ news) → Grew w w' v v' → R v' w' ∧ S w' ∧ F w w') :
    Lands P S F R w ((execOp a.eval o).run P w) := by
  obtain ⟨v', w', hrun, h2, h3, h4⟩ := run_app (ty := o.type) (c := c) E hown hr h1 h63 hbytes hbase; unfold execOp; simp only [ho, resolve, invoke, builtin, Sem.run_bind, Sem.run_pure, Result.andThen_ok, List.map_toArray, List.map_cons, List.map_nil, hs, hx, hrun]; exact h v' w' h2 ⟨h3, h4.imp id fun h => ⟨_, h, Nat.le_refl _⟩⟩
theorem bk_rd {W : World} {g k n : Nat} {t : TypeId} {cs : List Value} (h : Bk W g t cs.toArray) (hk : cs.length = n * k) : Rd W W.heap.size k (some ⟨g, 0, none⟩) n cs := by
  refine ⟨hk, fun _ => ⟨_, rfl, h.lt, fun j u hu => ?_⟩⟩; rw [addr_zero, h.cell]
  simpa using hu
def ApT (g : Nat) (v : Value) (i : Nat) : Prop := i = g ∨ v.ownBlock = some i
def Lies (W0 : World) (v u : Value) : Prop := u.ownBlock = v.ownBlock ∨ ∃ h, u.ownBlock = some h ∧ W0.heap.size ≤ h
theorem Lies.refl (W0 : World) (v : Value) : Lies W0 v v := .inl rfl
theorem Lies.old {W0 : World} {v u : Value} (h : Lies W0 v u) {i : Nat} (hi : i < W0.heap.size) (hu : u.ownBlock = some i) : v.ownBlock = some i := by
  rcases h with h | ⟨j, h, hj⟩
  · rw [← h, hu]
  · rw [hu] at h; injection h with h; omega
theorem Lies.trans {W0 W1 : World} {v u x : Value} (h : Lies W0 v u) (h' : Lies W1 u x) (hs : W0.heap.size ≤ W1.heap.size) : Lies W0 v x := by
  rcases h' with h' | ⟨j, h', hj⟩
  · rcases h with h | ⟨i, h, hi⟩
    · exact .inl (h'.trans h)
    · exact .inr ⟨i, h'.trans h, hi⟩
  · exact .inr ⟨j, h', by omega⟩
def ApS (W0 : World) (base g : Nat) (T e : TypeId) (C : Value → Array Value) (n m : Nat) (xs ys : List Value) (v : Value) : List Value → World → Prop
  | [], W => Keep (ApT g v) W0 W ∧ Bk W g T (C v) ∧ W.ownsRow base e 1 v n xs
  | [u], W => u = v ∧ Keep (ApT g v) W0 W ∧ Bk W g T (C v) ∧ W.ownsRow base e 1 v n xs
  | [_, u], W => Keep (ApT g v) W0 W ∧ Bk W g T (C v) ∧ W.ownsRow base e 1 u (n + m) ys ∧ Lies W0 v u
  | _ :: u :: _ :: _, W => Keep (ApT g v) W0 W ∧ Bk W g T (C u) ∧ W.ownsRow base e 1 u (n + m) ys ∧ Lies W0 v u
section
variable {W0 W : World} {base g n m : Nat} {T e : TypeId} {C : Value → Array Value} {xs ys : List Value} {v : Value} {vals : List Value}
theorem ApS.keep (h : ApS W0 base g T e C n m xs ys v vals W) : Keep (ApT g v) W0 W := by
  match vals, h with
  | [], h => exact h.1
  | [_], h => exact h.2.1
  | [_, _], h => exact h.1
  | _ :: _ :: _ :: _, h => exact h.1
theorem ApS.box (h : ApS W0 base g T e C n m xs ys v vals W) : ∃ u, Bk W g T (C u) := by
  match vals, h with
  | [], h => exact ⟨_, h.2.1⟩
  | [_], h => exact ⟨_, h.2.2.1⟩
  | [_, _], h => exact ⟨_, h.2.1⟩
  | _ :: _ :: _ :: _, h => exact ⟨_, h.2.1⟩
theorem ApS.alloc (h : ApS W0 base g T e C n m xs ys v vals W) (o : Obj) : ApS W0 base g T e C n m xs ys v vals (W.alloc o) := by
  match vals, h with
  | [], h => exact ⟨h.1.alloc o, h.2.1.alloc o, h.2.2.alloc o⟩
  | [_], h => exact ⟨h.1, h.2.1.alloc o, h.2.2.1.alloc o, h.2.2.2.alloc o⟩
  | [_, _], h => exact ⟨h.1.alloc o, h.2.1.alloc o, h.2.2.1.alloc o, h.2.2.2⟩
  | _ :: _ :: _ :: _, h => exact ⟨h.1.alloc o, h.2.1.alloc o, h.2.2.1.alloc o, h.2.2.2⟩
theorem ApS.start (hk : Bk W0 g T (C v)) (ho : W0.ownsRow base e 1 v n xs) : ApS W0 base g T e C n m xs ys v [] W0.drew := ⟨(Keep.refl _ _).drew, hk, ho⟩
theorem ApS.appended {u u' : Value} {W' : World} (h : ApS W0 base g T e C n m xs ys v [u] W) (hg : Grew W W' v u') (ho : W'.ownsRow base e 1 u' (n + m) ys) (hne : e ≠ T) : ApS W0 base g T e C n m xs ys v [u, u'] W' ∧ Keep (ApT g v) W W' := by
  obtain ⟨-, hK, hb, hr⟩ := h; have hK2 : Keep (ApT g v) W W' := Keep.of_grew hg fun i hi => .inr hi.symm; refine ⟨⟨hK.trans hK2 fun _ _ hi => hi, hg.bk hr hb hne, ho, ?_⟩, hK2⟩
  rcases hg.lies with hl | ⟨j, hl, hj⟩
  · exact .inl hl
  · exact .inr ⟨j, hl, Nat.le_trans hK.size hj⟩
theorem ApS.stored {u u' x : Value} {k : Nat} (h : ApS W0 base g T e C n m xs ys v [u, u'] W) (hC : (C v).setIfInBounds k u' = C u') (hne : e ≠ T) : ApS W0 base g T e C n m xs ys v [u, u', x] (W.setCell ⟨g, k, none⟩ u') ∧ Keep (ApT g v) W (W.setCell ⟨g, k, none⟩ u') := by
  obtain ⟨hK, hb, hr, hl⟩ := h; have h1 : Keep (fun i => i = g) W (W.setCell ⟨g, k, none⟩ u') := (Keep.refl (fun i => i = g) W).setCell (p := ⟨g, k, none⟩) (fun _ => rfl) u'; have h2 : Keep (ApT g v) W (W.setCell ⟨g, k, none⟩ u') := h1.mono fun i _ hi => .inl hi; refine ⟨⟨hK.trans h2 fun _ _ hi => hi, by have := hb.set_ k u'; rwa [hC] at this, h1.own hr (fun i hi he => ?_), hl⟩, h2⟩; subst he; exact own_ne hr hb hne hi
theorem ApS.done {x0 x1 x2 : Value} (h : ApS W0 base g T e C n m xs ys v [x0, x1, x2] W) : Keep (ApT g v) W0 W ∧ Bk W g T (C x1) ∧ W.ownsRow base e 1 x1 (n + m) ys ∧ Lies W0 v x1 := h
end
def ApX (n0 : Nat) (e : TypeId) (x : Value) (u : Value) (W : World) : Prop := ∃ h, u = .slice (some ⟨h, 0, none⟩) 1 1 ∧ n0 ≤ h ∧ Bk W h e #[x]
theorem apx_stable {n0 g : Nat} {e : TypeId} {v x : Value} (hg : g < n0) (hv : ∀ i, v.ownBlock = some i → i < n0) : Stable (fun W W' => Keep (ApT g v) W W') (ApX n0 e x) := by
  rintro u W W' hK ⟨h, rfl, hh, hb⟩; refine ⟨h, rfl, hh, hK.bk hb ?_⟩; rintro (rfl | hi)
  · omega
  · have := hv _ hi; omega
theorem own_blk {W : World} {base n : Nat} {e : TypeId} {v : Value} {xs : List Value} (h : W.ownsRow base e 1 v n xs) : ∀ i, v.ownBlock = some i → i < W.heap.size := fun i hi => (h.lt i hi).2
theorem own_base {W : World} {base n : Nat} {e : TypeId} {v : Value} {xs : List Value} (h : W.ownsRow base e 1 v n xs) : ∀ i, v.ownBlock = some i → base ≤ i := fun i hi => (h.lt i hi).1
end Go.Proofs.YtlaiocdnddnnaaaGreatDoor
