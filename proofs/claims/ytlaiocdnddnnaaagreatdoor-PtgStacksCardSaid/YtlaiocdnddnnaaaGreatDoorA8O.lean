/- 'out.Kids = append(out.Kids, To(..))' in a region that draws its order: what holds between its operations. No condition. -/
/- 'out.Kids = append(out.Kids, To(..))' in a region that draws its order: what holds between its operations. No condition. -/
import Derived.Test.YtlaiocdnddnnaaaGreatDoorNf
import Derived.Test.YtlaiocdnddnnaaaGreatDoorApp
import Derived.Test.YtlaiocdnddnnaaaGreatDoorRw
set_option linter.unusedVariables false
set_option linter.unusedSimpArgs false
namespace Go.Proofs.YtlaiocdnddnnaaaGreatDoor
open Go.RowKit
def ToF (n0 : Nat) (p : Pay) (ks : List Tr) (v : Value) (W : World) : Prop := ∃ A c, v = .agg (ec p (.slice A ks.length c)).toArray ∧ ks.length ≤ c ∧ RowF treeF W (fun i => n0 ≤ i ∧ i < W.heap.size) A ks.length ks
def ToX (n0 : Nat) (p : Pay) (ks : List Tr) (u : Value) (W : World) : Prop := ∃ h A c, u = .slice (some ⟨h, 0, none⟩) 1 1 ∧ n0 ≤ h ∧ Bk W h 47 (ec p (.slice A ks.length c)).toArray ∧ ks.length ≤ c ∧ RowF treeF W (fun i => n0 ≤ i ∧ i < W.heap.size) A ks.length ks
def Nw (W0 : World) (base n : Nat) (xs : List Value) (v : Value) (p : Pay) (ks : List Tr) (u : Value) (W : World) : Prop :=
  Lies W0 v u ∧ ∃ A c, W.ownsRow base 47 18 u (n + 1) (xs ++ ec p (.slice A ks.length c)) ∧ ks.length ≤ c ∧ RowF treeF W (fun i => W0.heap.size ≤ i ∧ i < W.heap.size ∧ u.ownBlock ≠ some i) A ks.length ks
def S5 (W0 : World) (base g n : Nat) (xs : List Value) (q : Pay) (v : Value) (p : Pay) (ks : List Tr) : List Value → World → Prop
  | [], W => Keep (ApT g v) W0 W ∧ Bk W g 47 (ec q v).toArray ∧ W.ownsRow base 47 18 v n xs
  | [u], W => u = v ∧ Keep (ApT g v) W0 W ∧ Bk W g 47 (ec q v).toArray ∧ W.ownsRow base 47 18 v n xs
  | [_, u], W => Keep (ApT g v) W0 W ∧ Bk W g 47 (ec q v).toArray ∧ Nw W0 base n xs v p ks u W
  | _ :: u :: _ :: _, W => Keep (ApT g v) W0 W ∧ Bk W g 47 (ec q u).toArray ∧ Nw W0 base n xs v p ks u W
section
variable {W0 W W' : World} {base g n : Nat} {xs : List Value} {q p : Pay} {v u : Value} {ks : List Tr} {vals : List Value}
theorem own8_below {e : TypeId} {m : Nat} {ys : List Value} (h : W.ownsRow base e 18 u m ys) (hb : Below W.heap.size W W') : W'.ownsRow base e 18 u m ys :=
  (Keep.of_below (S := fun i => W.heap.size ≤ i) hb fun i _ h => h).own h fun i hi hh => by have := (h.lt i hi).2; omega
theorem Nw.keep {S : Nat → Prop} (h : Nw W0 base n xs v p ks u W) (hK : Keep S W W') (h0 : W0.heap.size ≤ W.heap.size) (hS : ∀ i, i < W.heap.size → S i → i < W0.heap.size ∧ u.ownBlock ≠ some i) : Nw W0 base n xs v p ks u W' := by
  obtain ⟨h1, A, c, h2, h3, h4⟩ := h; refine ⟨h1, A, c, hK.own h2 fun i hi e => (hS i (h2.lt i hi).2 e).2 hi, h3, h4.move (hK.move (fun i hi => ⟨hi.2.1, fun e => by have := (hS i hi.2.1 e).1; have := hi.1; omega⟩) fun i hi => ⟨hi.1, by have := hK.size; omega, hi.2.2⟩)⟩
theorem S5.keep (h : S5 W0 base g n xs q v p ks vals W) : Keep (ApT g v) W0 W := by
  match vals, h with
  | [], h => exact h.1
  | [_], h => exact h.2.1
  | [_, _], h => exact h.1
  | _ :: _ :: _ :: _, h => exact h.1
theorem S5.below (h : S5 W0 base g n xs q v p ks vals W) (hb : Below W.heap.size W W') : S5 W0 base g n xs q v p ks vals W' := by
  have hk := h.keep; have hz := hk.size; have hK2 : Keep (fun i => W.heap.size ≤ i) W W' := Keep.of_below hb fun i _ h => h; have hK3 : Keep (ApT g v) W0 W' := hk.trans hK2 fun i hi e => by omega
  match vals, h with
  | [], h => exact ⟨hK3, h.2.1.below hb h.2.1.lt, own8_below h.2.2 hb⟩
  | [_], h => exact ⟨h.1, hK3, h.2.2.1.below hb h.2.2.1.lt, own8_below h.2.2.2 hb⟩
  | [_, _], h => exact ⟨hK3, h.2.1.below hb h.2.1.lt, h.2.2.keep hK2 hz fun i hi e => by omega⟩
  | _ :: _ :: _ :: _, h => exact ⟨hK3, h.2.1.below hb h.2.1.lt, h.2.2.keep hK2 hz fun i hi e => by omega⟩
theorem S5.appended {u' : Value} {A : Option Addr} {c : Nat} (h : S5 W0 base g n xs q v p ks [u] W) (hg : Grew W W' v u') (ho : W'.ownsRow base 47 18 u' (n + 1) (xs ++ ec p (.slice A ks.length c)))
    (hne : v.ownBlock ≠ some g) (hvl : ∀ i, v.ownBlock = some i → i < W0.heap.size) (hc : ks.length ≤ c) (hr : RowF treeF W (fun i => W0.heap.size ≤ i ∧ i < W.heap.size) A ks.length ks) : S5 W0 base g n xs q v p ks [u, u'] W' ∧ Keep (ApT g v) W W' := by
  obtain ⟨-, hK, hb, hr0⟩ := h; have hK2 : Keep (fun i => v.ownBlock = some i) W W' := Keep.of_grew hg fun i hi => hi.symm; have hz := hK.size; refine ⟨⟨hK.trans hK2 fun i _ e => .inr e, hK2.bk hb hne, ?_, A, c, ho, hc, ?_⟩, hK2.mono fun i _ e => .inr e⟩
  · rcases hg.lies with hl | ⟨j, hl, hj⟩
    · exact .inl hl
    · exact .inr ⟨j, hl, Nat.le_trans hK.size hj⟩
  · refine hr.move (hK2.move (fun i hi => ⟨hi.2, fun e => by have := hvl i e; omega⟩) fun i hi => ⟨hi.1, by have := hK2.size; omega, fun e => ?_⟩)
    rcases hg.lies with hl | ⟨j, hl, hj⟩
    · have := hvl i (hl.symm.trans e); omega
    · rw [e] at hl; injection hl with hl; omega
theorem S5.stored {u' x : Value} (h : S5 W0 base g n xs q v p ks [u, u'] W) (hg : g < W0.heap.size) (hug : u'.ownBlock ≠ some g) : S5 W0 base g n xs q v p ks [u, u', x] (W.setCell ⟨g, 17, none⟩ u') ∧ Keep (ApT g v) W (W.setCell ⟨g, 17, none⟩ u') := by
  obtain ⟨hK, hb, hn⟩ := h; have h1 : Keep (fun i => i = g) W (W.setCell ⟨g, 17, none⟩ u') := (Keep.refl (fun i => i = g) W).setCell (p := ⟨g, 17, none⟩) (fun _ => rfl) u'; exact ⟨⟨hK.trans h1 fun i _ e => .inl e, hb.set_ 17 u', hn.keep h1 hK.size fun i _ e => by subst e; exact ⟨hg, hug⟩⟩, h1.mono fun i _ e => .inl e⟩
end
theorem stab_toF {n0 g : Nat} {v : Value} {p : Pay} {ks : List Tr} (hg : g < n0) (hv : ∀ i, v.ownBlock = some i → i < n0) : Stable (fun W W' => Keep (ApT g v) W W') (ToF n0 p ks) := by
  rintro u W W' hK ⟨A, c, h1, h2, h3⟩; refine ⟨A, c, h1, h2, h3.move (hK.move (fun i hi => ⟨hi.2, fun e => ?_⟩) fun i hi => ⟨hi.1, by have := hK.size; omega⟩)⟩
  rcases e with e | e
  · omega
  · have := hv i e; omega
theorem stab_toX {n0 g : Nat} {v : Value} {p : Pay} {ks : List Tr} (hg : g < n0) (hv : ∀ i, v.ownBlock = some i → i < n0) : Stable (fun W W' => Keep (ApT g v) W W') (ToX n0 p ks) := by
  rintro u W W' hK ⟨h, A, c, h1, h2, h3, h4, h5⟩; refine ⟨h, A, c, h1, h2, hK.bk h3 fun e => ?_, h4, h5.move (hK.move (fun i hi => ⟨hi.2, fun e => ?_⟩) fun i hi => ⟨hi.1, by have := hK.size; omega⟩)⟩
  · rcases e with e | e
    · omega
    · have := hv _ e; omega
  · rcases e with e | e
    · omega
    · have := hv i e; omega
theorem run_ldr {W : World} {o : Oper} {a : Act} {q : Addr} {p : Pay} {k : Value} (x : Operand) (ho : o.op = .load 32 x) (hx : a.eval x = .pointer (some q)) (hb : ∀ (j : Nat) (u : Value), (ec p k)[j]? = some u → W.cell? (q.add j) = some u) :
    (execOp a.eval o).run Tryz.prog W = .ok (.value (.agg (ec p k).toArray)) W := by
  unfold execOp; simp only [ho, hx, Instr.loadAt, Instr.sureAddr, Sem.run_bind, Sem.run_pure, Result.andThen_ok, load_any W q _ (ec p k) _ hb Tryz.underlying32 rfl (by rw [ec_len]; kernel_rfl)]
theorem run_b5 {W : World} {o : Oper} {a : Act} {p : Pay} (x0 x1 x2 x3 x4 : Operand) (ho : o.op = .build 47 #[(0, x0), (1, x1), (2, x2), (3, x3), (4, x4)]) (h0 : a.eval x0 = .int .i64 p.kind)
    (h1 : a.eval x1 = .agg #[.int .i64 p.vk, .int .i64 p.vm, .int .i64 p.vs, .string p.vt, .bool p.vb, .int .i64 p.ve]) (h2 : a.eval x2 = .agg #[.int .i64 p.r1, .int .i64 p.c1, .bool p.x1, .bool p.y1, .int .i64 p.r2, .int .i64 p.c2, .bool p.x2, .bool p.y2])
    (h3 : a.eval x3 = .int .i64 p.sheet) (h4 : a.eval x4 = .int .i64 p.op) : (execOp a.eval o).run Tryz.prog W = .ok (.value (.agg (ec p (.slice none 0 0)).toArray)) W := by
  unfold execOp; simp only [ho, List.map_toArray, List.map_cons, List.map_nil, h0, h1, h2, h3, h4]
  kernel_rfl
theorem run_bs {W : World} {o : Oper} {a : Act} {p : Pay} {k : Value} (x : Operand) (ho : o.op = .buildSlice 45 1 #[(0, x)]) (hx : a.eval x = .agg (ec p k).toArray) :
    (execOp a.eval o).run Tryz.prog W = .ok (.value (.slice (some ⟨W.heap.size, 0, none⟩) 1 1)) (W.alloc (.cells (ec p k).toArray 47)) := by
  unfold execOp; simp only [ho, List.map_toArray, List.map_cons, List.map_nil, hx]; simp only [ec, pc, List.cons_append, List.nil_append]; go_simp
theorem ToF.low {n0 n1 : Nat} {p : Pay} {ks : List Tr} {v : Value} {W : World} (h : ToF n1 p ks v W) (hn : n0 ≤ n1) : ToF n0 p ks v W := by
  obtain ⟨A, c, h1, h2, h3⟩ := h; exact ⟨A, c, h1, h2, h3.move (Move.wide fun i hi => ⟨by have := hi.1; omega, hi.2⟩)⟩
end Go.Proofs.YtlaiocdnddnnaaaGreatDoor
namespace Go.Proofs.YtlaiocdnddnnaaaGreatDoor
namespace Mir
open Go.RowKit
def ToF (n0 : Nat) (p : Pay) (ks : List Tr) (v : Value) (W : World) : Prop := ∃ A c, v = .agg (ec p (.slice A ks.length c)).toArray ∧ ks.length ≤ c ∧ RowF treeF W (fun i => n0 ≤ i ∧ i < W.heap.size) A ks.length ks
def ToX (n0 : Nat) (p : Pay) (ks : List Tr) (u : Value) (W : World) : Prop := ∃ h A c, u = .slice (some ⟨h, 0, none⟩) 1 1 ∧ n0 ≤ h ∧ Bk W h 32 (ec p (.slice A ks.length c)).toArray ∧ ks.length ≤ c ∧ RowF treeF W (fun i => n0 ≤ i ∧ i < W.heap.size) A ks.length ks
def Nw (W0 : World) (base n : Nat) (xs : List Value) (v : Value) (p : Pay) (ks : List Tr) (u : Value) (W : World) : Prop :=
  Lies W0 v u ∧ ∃ A c, W.ownsRow base 32 18 u (n + 1) (xs ++ ec p (.slice A ks.length c)) ∧ ks.length ≤ c ∧ RowF treeF W (fun i => W0.heap.size ≤ i ∧ i < W.heap.size ∧ u.ownBlock ≠ some i) A ks.length ks
def S5 (W0 : World) (base g n : Nat) (xs : List Value) (q : Pay) (v : Value) (p : Pay) (ks : List Tr) : List Value → World → Prop
  | [], W => Keep (ApT g v) W0 W ∧ Bk W g 32 (ec q v).toArray ∧ W.ownsRow base 32 18 v n xs
  | [u], W => u = v ∧ Keep (ApT g v) W0 W ∧ Bk W g 32 (ec q v).toArray ∧ W.ownsRow base 32 18 v n xs
  | [_, u], W => Keep (ApT g v) W0 W ∧ Bk W g 32 (ec q v).toArray ∧ Nw W0 base n xs v p ks u W
  | _ :: u :: _ :: _, W => Keep (ApT g v) W0 W ∧ Bk W g 32 (ec q u).toArray ∧ Nw W0 base n xs v p ks u W
section
variable {W0 W W' : World} {base g n : Nat} {xs : List Value} {q p : Pay} {v u : Value} {ks : List Tr} {vals : List Value}
theorem own8_below {e : TypeId} {m : Nat} {ys : List Value} (h : W.ownsRow base e 18 u m ys) (hb : Below W.heap.size W W') : W'.ownsRow base e 18 u m ys :=
  (Keep.of_below (S := fun i => W.heap.size ≤ i) hb fun i _ h => h).own h fun i hi hh => by have := (h.lt i hi).2; omega
theorem Nw.keep {S : Nat → Prop} (h : Nw W0 base n xs v p ks u W) (hK : Keep S W W') (h0 : W0.heap.size ≤ W.heap.size) (hS : ∀ i, i < W.heap.size → S i → i < W0.heap.size ∧ u.ownBlock ≠ some i) : Nw W0 base n xs v p ks u W' := by
  obtain ⟨h1, A, c, h2, h3, h4⟩ := h; refine ⟨h1, A, c, hK.own h2 fun i hi e => (hS i (h2.lt i hi).2 e).2 hi, h3, h4.move (hK.move (fun i hi => ⟨hi.2.1, fun e => by have := (hS i hi.2.1 e).1; have := hi.1; omega⟩) fun i hi => ⟨hi.1, by have := hK.size; omega, hi.2.2⟩)⟩
theorem S5.keep (h : S5 W0 base g n xs q v p ks vals W) : Keep (ApT g v) W0 W := by
  match vals, h with
  | [], h => exact h.1
  | [_], h => exact h.2.1
  | [_, _], h => exact h.1
  | _ :: _ :: _ :: _, h => exact h.1
theorem S5.below (h : S5 W0 base g n xs q v p ks vals W) (hb : Below W.heap.size W W') : S5 W0 base g n xs q v p ks vals W' := by
  have hk := h.keep; have hz := hk.size; have hK2 : Keep (fun i => W.heap.size ≤ i) W W' := Keep.of_below hb fun i _ h => h; have hK3 : Keep (ApT g v) W0 W' := hk.trans hK2 fun i hi e => by omega
  match vals, h with
  | [], h => exact ⟨hK3, h.2.1.below hb h.2.1.lt, own8_below h.2.2 hb⟩
  | [_], h => exact ⟨h.1, hK3, h.2.2.1.below hb h.2.2.1.lt, own8_below h.2.2.2 hb⟩
  | [_, _], h => exact ⟨hK3, h.2.1.below hb h.2.1.lt, h.2.2.keep hK2 hz fun i hi e => by omega⟩
  | _ :: _ :: _ :: _, h => exact ⟨hK3, h.2.1.below hb h.2.1.lt, h.2.2.keep hK2 hz fun i hi e => by omega⟩
theorem S5.appended {u' : Value} {A : Option Addr} {c : Nat} (h : S5 W0 base g n xs q v p ks [u] W) (hg : Grew W W' v u') (ho : W'.ownsRow base 32 18 u' (n + 1) (xs ++ ec p (.slice A ks.length c)))
    (hne : v.ownBlock ≠ some g) (hvl : ∀ i, v.ownBlock = some i → i < W0.heap.size) (hc : ks.length ≤ c) (hr : RowF treeF W (fun i => W0.heap.size ≤ i ∧ i < W.heap.size) A ks.length ks) : S5 W0 base g n xs q v p ks [u, u'] W' ∧ Keep (ApT g v) W W' := by
  obtain ⟨-, hK, hb, hr0⟩ := h; have hK2 : Keep (fun i => v.ownBlock = some i) W W' := Keep.of_grew hg fun i hi => hi.symm; have hz := hK.size; refine ⟨⟨hK.trans hK2 fun i _ e => .inr e, hK2.bk hb hne, ?_, A, c, ho, hc, ?_⟩, hK2.mono fun i _ e => .inr e⟩
  · rcases hg.lies with hl | ⟨j, hl, hj⟩
    · exact .inl hl
    · exact .inr ⟨j, hl, Nat.le_trans hK.size hj⟩
  · refine hr.move (hK2.move (fun i hi => ⟨hi.2, fun e => by have := hvl i e; omega⟩) fun i hi => ⟨hi.1, by have := hK2.size; omega, fun e => ?_⟩)
    rcases hg.lies with hl | ⟨j, hl, hj⟩
    · have := hvl i (hl.symm.trans e); omega
    · rw [e] at hl; injection hl with hl; omega
theorem S5.stored {u' x : Value} (h : S5 W0 base g n xs q v p ks [u, u'] W) (hg : g < W0.heap.size) (hug : u'.ownBlock ≠ some g) : S5 W0 base g n xs q v p ks [u, u', x] (W.setCell ⟨g, 17, none⟩ u') ∧ Keep (ApT g v) W (W.setCell ⟨g, 17, none⟩ u') := by
  obtain ⟨hK, hb, hn⟩ := h; have h1 : Keep (fun i => i = g) W (W.setCell ⟨g, 17, none⟩ u') := (Keep.refl (fun i => i = g) W).setCell (p := ⟨g, 17, none⟩) (fun _ => rfl) u'; exact ⟨⟨hK.trans h1 fun i _ e => .inl e, hb.set_ 17 u', hn.keep h1 hK.size fun i _ e => by subst e; exact ⟨hg, hug⟩⟩, h1.mono fun i _ e => .inl e⟩
end
theorem stab_toF {n0 g : Nat} {v : Value} {p : Pay} {ks : List Tr} (hg : g < n0) (hv : ∀ i, v.ownBlock = some i → i < n0) : Stable (fun W W' => Keep (ApT g v) W W') (ToF n0 p ks) := by
  rintro u W W' hK ⟨A, c, h1, h2, h3⟩; refine ⟨A, c, h1, h2, h3.move (hK.move (fun i hi => ⟨hi.2, fun e => ?_⟩) fun i hi => ⟨hi.1, by have := hK.size; omega⟩)⟩
  rcases e with e | e
  · omega
  · have := hv i e; omega
theorem stab_toX {n0 g : Nat} {v : Value} {p : Pay} {ks : List Tr} (hg : g < n0) (hv : ∀ i, v.ownBlock = some i → i < n0) : Stable (fun W W' => Keep (ApT g v) W W') (ToX n0 p ks) := by
  rintro u W W' hK ⟨h, A, c, h1, h2, h3, h4, h5⟩; refine ⟨h, A, c, h1, h2, hK.bk h3 fun e => ?_, h4, h5.move (hK.move (fun i hi => ⟨hi.2, fun e => ?_⟩) fun i hi => ⟨hi.1, by have := hK.size; omega⟩)⟩
  · rcases e with e | e
    · omega
    · have := hv _ e; omega
  · rcases e with e | e
    · omega
    · have := hv i e; omega
theorem run_ldr {W : World} {o : Oper} {a : Act} {q : Addr} {p : Pay} {k : Value} (x : Operand) (ho : o.op = .load 47 x) (hx : a.eval x = .pointer (some q)) (hb : ∀ (j : Nat) (u : Value), (ec p k)[j]? = some u → W.cell? (q.add j) = some u) :
    (execOp a.eval o).run Tryz.prog W = .ok (.value (.agg (ec p k).toArray)) W := by
  unfold execOp; simp only [ho, hx, Instr.loadAt, Instr.sureAddr, Sem.run_bind, Sem.run_pure, Result.andThen_ok, load_any W q _ (ec p k) _ hb Tryz.underlying47 rfl (by rw [ec_len]; kernel_rfl)]
theorem run_b5 {W : World} {o : Oper} {a : Act} {p : Pay} (x0 x1 x2 x3 x4 : Operand) (ho : o.op = .build 32 #[(0, x0), (1, x1), (2, x2), (3, x3), (4, x4)]) (h0 : a.eval x0 = .int .i64 p.kind)
    (h1 : a.eval x1 = .agg #[.int .i64 p.vk, .int .i64 p.vm, .int .i64 p.vs, .string p.vt, .bool p.vb, .int .i64 p.ve]) (h2 : a.eval x2 = .agg #[.int .i64 p.r1, .int .i64 p.c1, .bool p.x1, .bool p.y1, .int .i64 p.r2, .int .i64 p.c2, .bool p.x2, .bool p.y2])
    (h3 : a.eval x3 = .int .i64 p.sheet) (h4 : a.eval x4 = .int .i64 p.op) : (execOp a.eval o).run Tryz.prog W = .ok (.value (.agg (ec p (.slice none 0 0)).toArray)) W := by
  unfold execOp; simp only [ho, List.map_toArray, List.map_cons, List.map_nil, h0, h1, h2, h3, h4]
  kernel_rfl
theorem run_bs {W : World} {o : Oper} {a : Act} {p : Pay} {k : Value} (x : Operand) (ho : o.op = .buildSlice 30 1 #[(0, x)]) (hx : a.eval x = .agg (ec p k).toArray) :
    (execOp a.eval o).run Tryz.prog W = .ok (.value (.slice (some ⟨W.heap.size, 0, none⟩) 1 1)) (W.alloc (.cells (ec p k).toArray 32)) := by
  unfold execOp; simp only [ho, List.map_toArray, List.map_cons, List.map_nil, hx]; simp only [ec, pc, List.cons_append, List.nil_append]; go_simp
theorem ToF.low {n0 n1 : Nat} {p : Pay} {ks : List Tr} {v : Value} {W : World} (h : ToF n1 p ks v W) (hn : n0 ≤ n1) : ToF n0 p ks v W := by
  obtain ⟨A, c, h1, h2, h3⟩ := h; exact ⟨A, c, h1, h2, h3.move (Move.wide fun i hi => ⟨by have := hi.1; omega, hi.2⟩)⟩
end Mir
end Go.Proofs.YtlaiocdnddnnaaaGreatDoor
