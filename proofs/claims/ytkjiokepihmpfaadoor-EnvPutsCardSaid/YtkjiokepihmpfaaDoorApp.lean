/- 'p.f = append(p.f, ..)' through a pointer, in a region that draws its order: what holds between its operations. No condition. -/
import Derived.Test.YtkjiokepihmpfaaDoorPhase
import Derived.Test.YtkjiokepihmpfaaDoorLit
import Derived.Test.YtkjiokepihmpfaaDoorSk
set_option linter.unusedVariables false
set_option linter.unusedSimpArgs false
namespace Go.Proofs.YtkjiokepihmpfaaDoor
open Go.RowKit Go.Lib

theorem hdrRow : ElemRow Tryd.prog 130 26 (.slice none 0 0) 1 24 := by
  obtain ⟨i, hi, h0, h1, h2⟩ := info_parts (P := Tryd.prog) (e := 26) (z := .slice none 0 0) (size := 1) (bytes := 24) (by kernel_rfl)
  exact ⟨Tryd.underlying130, ⟨i, hi, h0, h1, h2⟩, rfl, by omega⟩

theorem lands_app {P : Program} {w : World} {t e size bytes m c n base B : Nat} {z v : Value} {A : Option Addr} {xs news : List Value} {S : World → Prop} {F : World → World → Prop} {R : Value → World → Prop} {o : Oper} {a : Act} (E : ElemRow P t e z size bytes) (s x : Operand)
    (ho : o.op = .call { callee := .builtin .append, args := #[s, x], argTypes := #[t, t] })
    (hs : a.eval s = v) (hx : a.eval x = .slice A m c) (hown : w.ownsRow base e size v n xs) (hr : Rd w B size A m news) (h1 : ∀ u ∈ news, u.oneCell' = true)
    (h63 : n + m ≤ maxLen) (hbytes : (n + m) * bytes ≤ 140737488355328) (hbase : base ≤ w.heap.size)
    (h : ∀ v' w', w'.ownsRow base e size v' (n + m) (xs ++ news) → Grew w w' v v' → R v' w' ∧ S w' ∧ F w w') :
    Lands P S F R w ((execOp a.eval o).run P w) := by
  obtain ⟨v', w', hrun, h2, h3, h4⟩ := run_app (ty := o.type) (c := c) E hown hr h1 h63 hbytes hbase
  unfold execOp
  simp only [ho, resolve, invoke, builtin, Sem.run_bind, Sem.run_pure, Result.andThen_ok, List.map_toArray, List.map_cons, List.map_nil, hs, hx, hrun]
  exact h v' w' h2 ⟨h3, h4.imp id fun h => ⟨_, h, Nat.le_refl _⟩⟩
theorem bk_rd {W : World} {g k n : Nat} {t : TypeId} {cs : List Value} (h : Bk W g t cs.toArray) (hk : cs.length = n * k) : Rd W W.heap.size k (some ⟨g, 0, none⟩) n cs := by
  refine ⟨hk, fun _ => ⟨_, rfl, h.lt, fun j u hu => ?_⟩⟩
  rw [addr_zero, h.cell]
  simpa using hu

/-- What turns: the box, the row's block. -/
def ApT (g : Nat) (v : Value) (i : Nat) : Prop := i = g ∨ v.ownBlock = some i
/-- A row that has grown lies where it lay, or in a block that was not there. -/
def Lies (W0 : World) (v u : Value) : Prop := u.ownBlock = v.ownBlock ∨ ∃ h, u.ownBlock = some h ∧ W0.heap.size ≤ h
theorem Lies.refl (W0 : World) (v : Value) : Lies W0 v v := .inl rfl
theorem Lies.old {W0 : World} {v u : Value} (h : Lies W0 v u) {i : Nat} (hi : i < W0.heap.size) (hu : u.ownBlock = some i) : v.ownBlock = some i := by
  rcases h with h | ⟨j, h, hj⟩
  · rw [← h, hu]
  · rw [hu] at h
    injection h with h
    omega
theorem Lies.trans {W0 W1 : World} {v u x : Value} (h : Lies W0 v u) (h' : Lies W1 u x) (hs : W0.heap.size ≤ W1.heap.size) : Lies W0 v x := by
  rcases h' with h' | ⟨j, h', hj⟩
  · rcases h with h | ⟨i, h, hi⟩
    · exact .inl (h'.trans h)
    · exact .inr ⟨i, h'.trans h, hi⟩
  · exact .inr ⟨j, h', by omega⟩

def ApS (W0 : World) (base g : Nat) (T e : TypeId) (C : Value → Array Value) (n m : Nat) (xs ys : List Value) (v : Value) : List Value → World → Prop
  | [], W => Keep (ApT g v) W0 W ∧ Bk W g T (C v) ∧ W.ownsRow base e 1 v n xs
  | [u], W => u = v ∧ Keep (ApT g v) W0 W ∧ Bk W g T (C v) ∧ W.ownsRow base e 1 v n xs
  | [_, u], W => Keep (ApT g v) W0 W ∧ Bk W g T (C v) ∧ W.ownsRow base e 1 u (n + m) ys ∧ Lies W0 v u
  | _ :: u :: _ :: _, W => Keep (ApT g v) W0 W ∧ Bk W g T (C u) ∧ W.ownsRow base e 1 u (n + m) ys ∧ Lies W0 v u

section
variable {W0 W : World} {base g n m : Nat} {T e : TypeId} {C : Value → Array Value} {xs ys : List Value} {v : Value} {vals : List Value}
theorem ApS.keep (h : ApS W0 base g T e C n m xs ys v vals W) : Keep (ApT g v) W0 W := by
  match vals, h with
  | [], h => exact h.1
  | [_], h => exact h.2.1
  | [_, _], h => exact h.1
  | _ :: _ :: _ :: _, h => exact h.1
theorem ApS.box (h : ApS W0 base g T e C n m xs ys v vals W) : ∃ u, Bk W g T (C u) := by
  match vals, h with
  | [], h => exact ⟨_, h.2.1⟩
  | [_], h => exact ⟨_, h.2.2.1⟩
  | [_, _], h => exact ⟨_, h.2.1⟩
  | _ :: _ :: _ :: _, h => exact ⟨_, h.2.1⟩
theorem ApS.alloc (h : ApS W0 base g T e C n m xs ys v vals W) (o : Obj) : ApS W0 base g T e C n m xs ys v vals (W.alloc o) := by
  match vals, h with
  | [], h => exact ⟨h.1.alloc o, h.2.1.alloc o, h.2.2.alloc o⟩
  | [_], h => exact ⟨h.1, h.2.1.alloc o, h.2.2.1.alloc o, h.2.2.2.alloc o⟩
  | [_, _], h => exact ⟨h.1.alloc o, h.2.1.alloc o, h.2.2.1.alloc o, h.2.2.2⟩
  | _ :: _ :: _ :: _, h => exact ⟨h.1.alloc o, h.2.1.alloc o, h.2.2.1.alloc o, h.2.2.2⟩
theorem ApS.start (hk : Bk W0 g T (C v)) (ho : W0.ownsRow base e 1 v n xs) : ApS W0 base g T e C n m xs ys v [] W0.drew := ⟨(Keep.refl _ _).drew, hk, ho⟩
/-- Behind the append. -/
theorem ApS.appended {u u' : Value} {W' : World} (h : ApS W0 base g T e C n m xs ys v [u] W) (hg : Grew W W' v u') (ho : W'.ownsRow base e 1 u' (n + m) ys) (hne : e ≠ T) : ApS W0 base g T e C n m xs ys v [u, u'] W' ∧ Keep (ApT g v) W W' := by
  obtain ⟨-, hK, hb, hr⟩ := h
  have hK2 : Keep (ApT g v) W W' := Keep.of_grew hg fun i hi => .inr hi.symm
  refine ⟨⟨hK.trans hK2 fun _ _ hi => hi, hg.bk hr hb hne, ho, ?_⟩, hK2⟩
  rcases hg.lies with hl | ⟨j, hl, hj⟩
  · exact .inl hl
  · exact .inr ⟨j, hl, Nat.le_trans hK.size hj⟩
/-- Behind the store. -/
theorem ApS.stored {u u' x : Value} {k : Nat} (h : ApS W0 base g T e C n m xs ys v [u, u'] W) (hC : (C v).setIfInBounds k u' = C u') (hne : e ≠ T) : ApS W0 base g T e C n m xs ys v [u, u', x] (W.setCell ⟨g, k, none⟩ u') ∧ Keep (ApT g v) W (W.setCell ⟨g, k, none⟩ u') := by
  obtain ⟨hK, hb, hr, hl⟩ := h
  have h1 : Keep (fun i => i = g) W (W.setCell ⟨g, k, none⟩ u') := (Keep.refl (fun i => i = g) W).setCell (p := ⟨g, k, none⟩) (fun _ => rfl) u'
  have h2 : Keep (ApT g v) W (W.setCell ⟨g, k, none⟩ u') := h1.mono fun i _ hi => .inl hi
  refine ⟨⟨hK.trans h2 fun _ _ hi => hi, by have := hb.set_ k u'; rwa [hC] at this, h1.own hr (fun i hi he => ?_), hl⟩, h2⟩
  subst he
  exact own_ne hr hb hne hi
theorem ApS.done {x0 x1 x2 : Value} (h : ApS W0 base g T e C n m xs ys v [x0, x1, x2] W) : Keep (ApT g v) W0 W ∧ Bk W g T (C x1) ∧ W.ownsRow base e 1 x1 (n + m) ys ∧ Lies W0 v x1 := h
end

/-- A slice that was built of one value. -/
def ApX (n0 : Nat) (e : TypeId) (x : Value) (u : Value) (W : World) : Prop := ∃ h, u = .slice (some ⟨h, 0, none⟩) 1 1 ∧ n0 ≤ h ∧ Bk W h e #[x]
theorem apx_stable {n0 g : Nat} {e : TypeId} {v x : Value} (hg : g < n0) (hv : ∀ i, v.ownBlock = some i → i < n0) : Stable (fun W W' => Keep (ApT g v) W W') (ApX n0 e x) := by
  rintro u W W' hK ⟨h, rfl, hh, hb⟩
  refine ⟨h, rfl, hh, hK.bk hb ?_⟩
  rintro (rfl | hi)
  · omega
  · have := hv _ hi
    omega
theorem own_blk {W : World} {base n : Nat} {e : TypeId} {v : Value} {xs : List Value} (h : W.ownsRow base e 1 v n xs) : ∀ i, v.ownBlock = some i → i < W.heap.size := fun i hi => (h.lt i hi).2
theorem own_base {W : World} {base n : Nat} {e : TypeId} {v : Value} {xs : List Value} (h : W.ownsRow base e 1 v n xs) : ∀ i, v.ownBlock = some i → base ≤ i := fun i hi => (h.lt i hi).1
end Go.Proofs.YtkjiokepihmpfaaDoor
