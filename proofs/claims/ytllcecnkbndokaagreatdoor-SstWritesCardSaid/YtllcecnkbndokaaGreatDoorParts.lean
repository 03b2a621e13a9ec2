/- 'p.f = append(p.f, ..)' through a pointer, in a region that draws its order: what holds between its operations. No condition. -/
/- What is put for a text, unit by unit, plainly. No condition; no model's run. -/
/- The parts that grow (sst.parts) in memory. No condition; no model's run. -/
import Derived.Test.YtllcecnkbndokaaGreatDoorPhase
import Derived.Test.YtllcecnkbndokaaGreatDoorLit
import Derived.Test.YtllcecnkbndokaaGreatDoorOnce
import Derived.Test.YtllcecnkbndokaaGreatDoorLay2
import Derived.Test.YtllcecnkbndokaaGreatDoorUnit
namespace Go.Proofs.YtllcecnkbndokaaGreatDoor
open Go.RowKit Go.Lib

theorem lands_app {P : Program} {w : World} {t e size bytes m c n base B : Nat} {z v : Value} {A : Option Addr} {xs news : List Value} {S : World → Prop} {F : World → World → Prop} {R : Value → World → Prop} {o : Oper} {a : Act} (E : ElemRow P t e z size bytes) (s x : Operand)
    (ho : o.op = .call { callee := .builtin .append, args := #[s, x], argTypes := #[t, t] })
    (hs : a.eval s = v) (hx : a.eval x = .slice A m c) (hown : w.ownsRow base e size v n xs) (hr : Rd w B size A m news) (h1 : ∀ u ∈ news, u.oneCell' = true)
    (h63 : n + m ≤ maxLen) (hbytes : (n + m) * bytes ≤ 140737488355328) (hbase : base ≤ w.heap.size)
    (h : ∀ v' w', w'.ownsRow base e size v' (n + m) (xs ++ news) → Grew w w' v v' → R v' w' ∧ S w' ∧ F w w') :
    Lands P S F R w ((execOp a.eval o).run P w) := by
  obtain ⟨v', w', hrun, h2, h3, h4⟩ := run_app (ty := o.type) (c := c) E hown hr h1 h63 hbytes hbase
  unfold execOp
  simp only [ho, resolve, invoke, builtin, Sem.run_bind, Sem.run_pure, Result.andThen_ok, List.map_toArray, List.map_cons, List.map_nil, hs, hx, hrun]
  exact h v' w' h2 ⟨h3, h4.imp id fun h => ⟨_, h, Nat.le_refl _⟩⟩
theorem addr_zero (g k : Nat) : (⟨g, 0, none⟩ : Addr).add k = ⟨g, k, none⟩ := by unfold Addr.add; split <;> simp_all
theorem bk_rd {W : World} {g k n : Nat} {t : TypeId} {cs : List Value} (h : Bk W g t cs.toArray) (hk : cs.length = n * k) : Rd W W.heap.size k (some ⟨g, 0, none⟩) n cs := by
  refine ⟨hk, fun _ => ⟨_, rfl, h.lt, fun j u hu => ?_⟩⟩
  rw [addr_zero, h.cell]
  simpa using hu

/-- What turns: the box, the row's block. -/
def ApT (g : Nat) (v : Value) (i : Nat) : Prop := i = g ∨ v.ownBlock = some i
/-- A row that has grown lies where it lay, or in a block that was not there. -/
def Lies (W0 : World) (v u : Value) : Prop := u.ownBlock = v.ownBlock ∨ ∃ h, u.ownBlock = some h ∧ W0.heap.size ≤ h
theorem Lies.refl (W0 : World) (v : Value) : Lies W0 v v := .inl rfl
theorem Lies.old {W0 : World} {v u : Value} (h : Lies W0 v u) {i : Nat} (hi : i < W0.heap.size) (hu : u.ownBlock = some i) : v.ownBlock = some i := by
  rcases h with h | ⟨j, h, hj⟩
  · rw [← h, hu]
  · rw [hu] at h
    injection h with h
    omega
theorem Lies.trans {W0 W1 : World} {v u x : Value} (h : Lies W0 v u) (h' : Lies W1 u x) (hs : W0.heap.size ≤ W1.heap.size) : Lies W0 v x := by
  rcases h' with h' | ⟨j, h', hj⟩
  · rcases h with h | ⟨i, h, hi⟩
    · exact .inl (h'.trans h)
    · exact .inr ⟨i, h'.trans h, hi⟩
  · exact .inr ⟨j, h', by omega⟩

def ApS (W0 : World) (base g : Nat) (T e : TypeId) (C : Value → Array Value) (n m : Nat) (xs ys : List Value) (v : Value) : List Value → World → Prop
  | [], W => Keep (ApT g v) W0 W ∧ Bk W g T (C v) ∧ W.ownsRow base e 1 v n xs
  | [u], W => u = v ∧ Keep (ApT g v) W0 W ∧ Bk W g T (C v) ∧ W.ownsRow base e 1 v n xs
  | [_, u], W => Keep (ApT g v) W0 W ∧ Bk W g T (C v) ∧ W.ownsRow base e 1 u (n + m) ys ∧ Lies W0 v u
  | _ :: u :: _ :: _, W => Keep (ApT g v) W0 W ∧ Bk W g T (C u) ∧ W.ownsRow base e 1 u (n + m) ys ∧ Lies W0 v u

section
variable {W0 W : World} {base g n m : Nat} {T e : TypeId} {C : Value → Array Value} {xs ys : List Value} {v : Value} {vals : List Value}
theorem ApS.keep (h : ApS W0 base g T e C n m xs ys v vals W) : Keep (ApT g v) W0 W := by
  match vals, h with
  | [], h => exact h.1
  | [_], h => exact h.2.1
  | [_, _], h => exact h.1
  | _ :: _ :: _ :: _, h => exact h.1
theorem ApS.box (h : ApS W0 base g T e C n m xs ys v vals W) : ∃ u, Bk W g T (C u) := by
  match vals, h with
  | [], h => exact ⟨_, h.2.1⟩
  | [_], h => exact ⟨_, h.2.2.1⟩
  | [_, _], h => exact ⟨_, h.2.1⟩
  | _ :: _ :: _ :: _, h => exact ⟨_, h.2.1⟩
theorem ApS.alloc (h : ApS W0 base g T e C n m xs ys v vals W) (o : Obj) : ApS W0 base g T e C n m xs ys v vals (W.alloc o) := by
  match vals, h with
  | [], h => exact ⟨h.1.alloc o, h.2.1.alloc o, h.2.2.alloc o⟩
  | [_], h => exact ⟨h.1, h.2.1.alloc o, h.2.2.1.alloc o, h.2.2.2.alloc o⟩
  | [_, _], h => exact ⟨h.1.alloc o, h.2.1.alloc o, h.2.2.1.alloc o, h.2.2.2⟩
  | _ :: _ :: _ :: _, h => exact ⟨h.1.alloc o, h.2.1.alloc o, h.2.2.1.alloc o, h.2.2.2⟩
theorem ApS.start (hk : Bk W0 g T (C v)) (ho : W0.ownsRow base e 1 v n xs) : ApS W0 base g T e C n m xs ys v [] W0.drew := ⟨(Keep.refl _ _).drew, hk, ho⟩
/-- Behind the append. -/
theorem ApS.appended {u u' : Value} {W' : World} (h : ApS W0 base g T e C n m xs ys v [u] W) (hg : Grew W W' v u') (ho : W'.ownsRow base e 1 u' (n + m) ys) (hne : e ≠ T) : ApS W0 base g T e C n m xs ys v [u, u'] W' ∧ Keep (ApT g v) W W' := by
  obtain ⟨-, hK, hb, hr⟩ := h
  have hK2 : Keep (ApT g v) W W' := Keep.of_grew hg fun i hi => .inr hi.symm
  refine ⟨⟨hK.trans hK2 fun _ _ hi => hi, hg.bk hr hb hne, ho, ?_⟩, hK2⟩
  rcases hg.lies with hl | ⟨j, hl, hj⟩
  · exact .inl hl
  · exact .inr ⟨j, hl, Nat.le_trans hK.size hj⟩
/-- Behind the store. -/
theorem ApS.stored {u u' x : Value} {k : Nat} (h : ApS W0 base g T e C n m xs ys v [u, u'] W) (hC : (C v).setIfInBounds k u' = C u') (hne : e ≠ T) : ApS W0 base g T e C n m xs ys v [u, u', x] (W.setCell ⟨g, k, none⟩ u') ∧ Keep (ApT g v) W (W.setCell ⟨g, k, none⟩ u') := by
  obtain ⟨hK, hb, hr, hl⟩ := h
  have h1 : Keep (fun i => i = g) W (W.setCell ⟨g, k, none⟩ u') := (Keep.refl (fun i => i = g) W).setCell (p := ⟨g, k, none⟩) (fun _ => rfl) u'
  have h2 : Keep (ApT g v) W (W.setCell ⟨g, k, none⟩ u') := h1.mono fun i _ hi => .inl hi
  refine ⟨⟨hK.trans h2 fun _ _ hi => hi, by have := hb.set_ k u'; rwa [hC] at this, h1.own hr (fun i hi he => ?_), hl⟩, h2⟩
  subst he
  exact own_ne hr hb hne hi
theorem ApS.done {x0 x1 x2 : Value} (h : ApS W0 base g T e C n m xs ys v [x0, x1, x2] W) : Keep (ApT g v) W0 W ∧ Bk W g T (C x1) ∧ W.ownsRow base e 1 x1 (n + m) ys ∧ Lies W0 v x1 := h
end

/-- A slice that was built of one value. -/
def ApX (n0 : Nat) (e : TypeId) (x : Value) (u : Value) (W : World) : Prop := ∃ h, u = .slice (some ⟨h, 0, none⟩) 1 1 ∧ n0 ≤ h ∧ Bk W h e #[x]
theorem apx_stable {n0 g : Nat} {e : TypeId} {v x : Value} (hg : g < n0) (hv : ∀ i, v.ownBlock = some i → i < n0) : Stable (fun W W' => Keep (ApT g v) W W') (ApX n0 e x) := by
  rintro u W W' hK ⟨h, rfl, hh, hb⟩
  refine ⟨h, rfl, hh, hK.bk hb ?_⟩
  rintro (rfl | hi)
  · omega
  · have := hv _ hi
    omega
theorem own_blk {W : World} {base n : Nat} {e : TypeId} {v : Value} {xs : List Value} (h : W.ownsRow base e 1 v n xs) : ∀ i, v.ownBlock = some i → i < W.heap.size := fun i hi => (h.lt i hi).2
theorem own_base {W : World} {base n : Nat} {e : TypeId} {v : Value} {xs : List Value} (h : W.ownsRow base e 1 v n xs) : ∀ i, v.ownBlock = some i → base ≤ i := fun i hi => (h.lt i hi).1
end Go.Proofs.YtllcecnkbndokaaGreatDoor
namespace Go.Proofs.YtllcecnkbndokaaGreatDoor
open Go.Lib

theorem ub0 : ∀ us : List Int, us.flatMap (ub 0) = us.map by8
  | [] => rfl
  | u :: us => by
    rw [List.flatMap_cons, List.map_cons, ub0 us]
    rfl
theorem ub1 (us : List Int) : us.flatMap (ub 1) = wideBytes us := by
  unfold wideBytes
  congr 1
/-- What is put for a text: its three bytes, then each unit's. -/
theorem pb_units (l : List UInt8) : pb l = headT l ++ (unis l).flatMap (ub (flT l)) := by
  unfold pb headT flT
  cases hn : narB l
  · simp only [Bool.false_eq_true, ↓reduceIte]
    rw [ub1, List.append_assoc]
    rfl
  · simp only [↓reduceIte]
    rw [ub0, unis_nar hn, List.append_assoc]
    rfl
end Go.Proofs.YtllcecnkbndokaaGreatDoor
namespace Go.Proofs.YtllcecnkbndokaaGreatDoor
open Go.RowKit Go.Lib

/-- The parts so far, in block g: bytes, cuts, where the last part begins, places. -/
structure PI (W : World) (base g : Nat) (S : LS) (ps : List Nat) (dv cv pv : Value) : Prop where
  box : Bk W g 83 #[dv, cv, .int .i64 S.bg, pv]
  od : W.ownsRow base 5 1 dv S.b.length (S.b.map bv)
  oc : W.ownsRow base 3 1 cv S.cs.length (S.cs.map iv)
  op : W.ownsRow base 3 1 pv ps.length (ps.map nv)
  ap : ∀ i, cv.ownBlock = some i → pv.ownBlock ≠ some i
/-- What turns of them. -/
def PT (g : Nat) (dv cv pv : Value) (i : Nat) : Prop := i = g ∨ dv.ownBlock = some i ∨ cv.ownBlock = some i ∨ pv.ownBlock = some i
/-- From W0 to W they have grown. -/
structure PJ (W0 W : World) (base g : Nat) (S : LS) (ps : List Nat) (dv cv pv dv' cv' pv' : Value) : Prop where
  i : PI W base g S ps dv' cv' pv'
  keep : Keep (PT g dv cv pv) W0 W
  ld : Lies W0 dv dv'
  lc : Lies W0 cv cv'
  lp : Lies W0 pv pv'
section
variable {W0 W W' : World} {base g : Nat} {S : LS} {ps : List Nat} {dv cv pv dv' cv' pv' dw cw pw : Value}
theorem PI.refl (h : PI W base g S ps dv cv pv) : PJ W W base g S ps dv cv pv dv cv pv := ⟨h, Keep.refl _ _, .refl _ _, .refl _ _, .refl _ _⟩
theorem PJ.trans {S' : LS} {ps' : List Nat} (h : PJ W0 W base g S ps dv cv pv dv' cv' pv') (h' : PJ W W' base g S' ps' dv' cv' pv' dw cw pw) : PJ W0 W' base g S' ps' dv cv pv dw cw pw := by
  refine ⟨h'.i, h.keep.trans h'.keep fun i hi ht => ?_, h.ld.trans h'.ld h.keep.size, h.lc.trans h'.lc h.keep.size, h.lp.trans h'.lp h.keep.size⟩
  rcases ht with rfl | ht | ht | ht
  · exact .inl rfl
  · exact .inr (.inl (h.ld.old hi ht))
  · exact .inr (.inr (.inl (h.lc.old hi ht)))
  · exact .inr (.inr (.inr (h.lp.old hi ht)))
/-- Nothing of them has turned. -/
theorem PI.keep {T : Nat → Prop} (h : PI W base g S ps dv cv pv) (hk : Keep T W W') (hn : ∀ i, PT g dv cv pv i → ¬ T i) : PI W' base g S ps dv cv pv :=
  ⟨hk.bk h.box (hn _ (.inl rfl)), hk.own h.od fun i hi => hn _ (.inr (.inl hi)), hk.own h.oc fun i hi => hn _ (.inr (.inr (.inl hi))), hk.own h.op fun i hi => hn _ (.inr (.inr (.inr hi))), h.ap⟩
theorem PI.below (h : PI W base g S ps dv cv pv) (hb : Below W.heap.size W W') : PI W' base g S ps dv cv pv :=
  ⟨h.box.below hb h.box.lt, own_below h.od hb, own_below h.oc hb, own_below h.op hb, h.ap⟩
theorem PJ.below (h : PJ W0 W base g S ps dv cv pv dv' cv' pv') (hb : Below W.heap.size W W') : PJ W0 W' base g S ps dv cv pv dv' cv' pv' :=
  ⟨h.i.below hb, h.keep.trans (T := fun i => W.heap.size ≤ i) (Keep.of_below hb fun i _ hi => hi) fun i hi ht => by have := h.keep.size; omega, h.ld, h.lc, h.lp⟩
theorem PJ.drew (h : PJ W0 W base g S ps dv cv pv dv' cv' pv') : PJ W0 W.drew base g S ps dv cv pv dv' cv' pv' := h.below ((Below.refl _ _).drew)
/-- What the parts' blocks are not: a block of another type, or that lies elsewhere. -/
theorem PI.other {t : TypeId} {j : Nat} {cs : Array Value} (h : PI W base g S ps dv cv pv) (hk : Bk W j t cs) (h1 : t ≠ 83) (h2 : t ≠ 5) (h3 : t ≠ 3) : ¬ PT g dv cv pv j := by
  rintro (rfl | ht | ht | ht)
  · have := h.box
    unfold Bk at this hk
    rw [this] at hk
    injection hk with hk
    injection hk with _ hk
    exact h1 hk.symm
  · exact own_ne h.od hk (Ne.symm h2) ht
  · exact own_ne h.oc hk (Ne.symm h3) ht
  · exact own_ne h.op hk (Ne.symm h3) ht
theorem PI.iter {s : ByteArray} {j q : Nat} (h : PI W base g S ps dv cv pv) (hk : W.heap[j]? = some (.stringIter s q)) : ¬ PT g dv cv pv j := by
  rintro (rfl | ht | ht | ht)
  · have := h.box
    unfold Bk at this
    rw [this] at hk
    cases hk
  · exact own_ne_iter h.od hk ht.symm
  · exact own_ne_iter h.oc hk ht.symm
  · exact own_ne_iter h.op hk ht.symm
/-- The bytes have grown. -/
theorem PI.data {t : List UInt8} (h : PI W base g S ps dv cv pv) (hK : Keep (ApT g dv) W W') (hb : Bk W' g 83 #[dv', cv, .int .i64 S.bg, pv]) (ho : W'.ownsRow base 5 1 dv' (S.b ++ t).length ((S.b ++ t).map bv)) (hl : Lies W dv dv') :
    PJ W W' base g ⟨S.b ++ t, S.cs, S.bg⟩ ps dv cv pv dv' cv pv := by
  refine ⟨⟨hb, ho, hK.own h.oc fun i hi ht => ?_, hK.own h.op fun i hi ht => ?_, h.ap⟩, hK.mono fun i _ ht => ?_, hl, .refl _ _, .refl _ _⟩
  · rcases ht with rfl | ht
    · exact own_ne h.oc h.box (by decide) hi
    · exact own_own_ne h.oc h.od (by decide) i hi ht
  · rcases ht with rfl | ht
    · exact own_ne h.op h.box (by decide) hi
    · exact own_own_ne h.op h.od (by decide) i hi ht
  · rcases ht with rfl | ht
    · exact .inl rfl
    · exact .inr (.inl ht)
/-- A cut at the end. -/
theorem PI.cut (h : PI W base g S ps dv cv pv) (hK : Keep (ApT g cv) W W') (x : Int) (q : Nat) (hb : Bk W' g 83 #[dv, cv', .int .i64 q, pv]) (ho : W'.ownsRow base 3 1 cv' (S.cs ++ [x]).length ((S.cs ++ [x]).map iv)) (hl : Lies W cv cv') :
    PJ W W' base g ⟨S.b, S.cs ++ [x], q⟩ ps dv cv pv dv cv' pv := by
  have hpl := own_blk h.op
  refine ⟨⟨hb, hK.own h.od fun i hi ht => ?_, ho, hK.own h.op fun i hi ht => ?_, fun i hi hp => ?_⟩, hK.mono fun i _ ht => ?_, .refl _ _, hl, .refl _ _⟩
  · rcases ht with rfl | ht
    · exact own_ne h.od h.box (by decide) hi
    · exact own_own_ne h.od h.oc (by decide) i hi ht
  · rcases ht with rfl | ht
    · exact own_ne h.op h.box (by decide) hi
    · exact h.ap i ht hi
  · exact h.ap i (hl.old (hpl i hp) hi) hp
  · rcases ht with rfl | ht
    · exact .inl rfl
    · exact .inr (.inr (.inl ht))
/-- One place more. -/
theorem PI.place (h : PI W base g S ps dv cv pv) (hK : Keep (ApT g pv) W W') (x : Nat) (hb : Bk W' g 83 #[dv, cv, .int .i64 S.bg, pv']) (ho : W'.ownsRow base 3 1 pv' (ps ++ [x]).length ((ps ++ [x]).map nv)) (hl : Lies W pv pv') :
    PJ W W' base g S (ps ++ [x]) dv cv pv dv cv pv' := by
  have hcl := own_blk h.oc
  refine ⟨⟨hb, hK.own h.od fun i hi ht => ?_, hK.own h.oc fun i hi ht => ?_, ho, fun i hi hp => ?_⟩, hK.mono fun i _ ht => ?_, .refl _ _, .refl _ _, hl⟩
  · rcases ht with rfl | ht
    · exact own_ne h.od h.box (by decide) hi
    · exact own_own_ne h.od h.op (by decide) i hi ht
  · rcases ht with rfl | ht
    · exact own_ne h.oc h.box (by decide) hi
    · exact h.ap i hi ht
  · exact h.ap i hi (hl.old (hcl i hi) hp)
  · rcases ht with rfl | ht
    · exact .inl rfl
    · exact .inr (.inr (.inr ht))
end
end Go.Proofs.YtllcecnkbndokaaGreatDoor
