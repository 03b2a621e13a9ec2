/- What is left of a division, plainly: its sign, how great, and that so many whole ones make the number again. No program; no condition. -/
/- A drawn region that makes a box of its own beside Args just made: what is kept. No condition. -/
/- For rows of values: 'p.f = append(p.f, ..)' through a pointer, in a region that draws its order: what holds between its operations. No condition. -/
/- Two rows that grow side by side: an area's values, Args. No condition. -/
/- What the loop of FunChooses keeps. No condition. -/
/- A region that draws its order, with operations (blocks made, boxes filled) of which some only stand in a forced order: what holds by WHICH of them have been done. No condition. -/
/- Two boxes of values made and filled in a drawn region; values held unlike. No condition. -/
import Derived.Test.YtngkolcpbgibcaaGreatDoorPc0
import Derived.Test.YtngkolcpbgibcaaGreatDoorWide
import Derived.Test.YtngkolcpbgibcaaGreatDoorKd
import Derived.Test.YtngkolcpbgibcaaGreatDoorEarly
set_option linter.unusedVariables false
set_option linter.unusedSimpArgs false
namespace Go.Proofs.YtngkolcpbgibcaaGreatDoor
end Go.Proofs.YtngkolcpbgibcaaGreatDoor
namespace Go.Proofs.YtngkolcpbgibcaaGreatDoor
open Go.RowKit
def KB (W W' : World) : Prop := W.heap.size ≤ W'.heap.size ∧ ∀ g T cs, Bk W g T cs → (T = 32 → cs ≠ (vc .blank).toArray) → Bk W' g T cs
theorem KB.refl (W : World) : KB W W := ⟨Nat.le_refl _, fun _ _ _ h _ => h⟩
def TwoN (m : Int) (s : Nat) (n : Int) (t : Nat) (u : Value) (W : World) : Prop := ∃ q a b, u = .slice (some ⟨q, 0, none⟩) 2 2 ∧ Bk W q 55 (ac false (some ⟨a, 0, none⟩) 1 1 ++ ac false (some ⟨b, 0, none⟩) 1 1).toArray ∧ Bk W a 32 (vc (.num m s)).toArray ∧ Bk W b 32 (vc (.num n t)).toArray
theorem TwoN.row {m n : Int} {s t : Nat} {u : Value} {W : World} (h : TwoN m s n t u W) : ∃ q, u = .slice (some ⟨q, 0, none⟩) 2 2 ∧ RowF argF W (· < W.heap.size) (some ⟨q, 0, none⟩) 2 [(false, [.num m s]), (false, [.num n t])] := by
  obtain ⟨q, a, b, rfl, hq, ha, hb⟩ := h; refine ⟨q, rfl, row_args (L := [(.agg (ac false (some ⟨a, 0, none⟩) 1 1).toArray, (false, [.num m s])), (.agg (ac false (some ⟨b, 0, none⟩) 1 1).toArray, (false, [.num n t]))]) (fun p hp => ?_) (by simpa [agCs] using hq)⟩; simp only [List.mem_cons, List.not_mem_nil, or_false] at hp
  rcases hp with rfl | rfl
  · exact argv_one ha
  · exact argv_one hb
def SA (w : World) (B : Bxs) (r : VX) (vals : List Value) (W : World) : Prop := match vals with
  | [] => BX w B W
  | [v] => ∃ g, v = .pointer (some ⟨g, 0, none⟩) ∧ BX w ((g, 32, vc .blank) :: B) W
  | v :: _ :: _ => ∃ g, v = .pointer (some ⟨g, 0, none⟩) ∧ BX w ((g, 32, vc r) :: B) W
section
variable {w W W' : World} {B : Bxs} {r : VX} {vals : List Value}
theorem BX.dropt {b : Nat × TypeId × List Value} (h : BX w (b :: B) W) : BX w B W :=
  ⟨h.bel, fun b hm => h.lo b (List.mem_cons_of_mem _ hm), fun b hm => h.bk b (List.mem_cons_of_mem _ hm), (List.nodup_cons.1 h.nd).2⟩
theorem SA.old (h : SA w B r vals W) : BX w B W := by
  match vals, h with
  | [], h => exact h
  | [_], ⟨_, _, h⟩ => exact h.dropt
  | _ :: _ :: _, ⟨_, _, h⟩ => exact h.dropt
theorem SA.call (h : SA w B r vals W) (hb : Below W.heap.size W W') : SA w B r vals W' := by
  match vals, h with
  | [], h => exact BX.call h hb
  | [_], ⟨g, e, h⟩ => exact ⟨g, e, h.call hb⟩
  | _ :: _ :: _, ⟨g, e, h⟩ => exact ⟨g, e, h.call hb⟩
end
end Go.Proofs.YtngkolcpbgibcaaGreatDoor
namespace Go.Proofs.YtngkolcpbgibcaaGreatDoor
open Go.RowKit Go.Lib
theorem lands_ap6 {P : Program} {w : World} {t e size bytes m c n base B : Nat} {z v : Value} {A : Option Addr} {xs news : List Value} {S : World → Prop} {F : World → World → Prop} {R : Value → World → Prop} {o : Oper} {a : Act} (E : ElemRow P t e z size bytes) (s x : Operand)
    (ho : o.op = .call { callee := .builtin .append, args := #[s, x], argTypes := #[t, t] })
    (hs : a.eval s = v) (hx : a.eval x = .slice A m c) (hown : w.ownsRow base e size v n xs) (hr : Rd w B size A m news) (h1 : ∀ u ∈ news, u.oneCell' = true)
    (h63 : n + m ≤ maxLen) (hbytes : (n + m) * bytes ≤ 140737488355328) (hbase : base ≤ w.heap.size)
    (h : ∀ v' w', w'.ownsRow base e size v' (n + m) (xs ++ news) → Grew w w' v v' → R v' w' ∧ S w' ∧ F w w') :
    Lands P S F R w ((execOp a.eval o).run P w) := by
  obtain ⟨v', w', hrun, h2, h3, h4⟩ := run_app (ty := o.type) (c := c) E hown hr h1 h63 hbytes hbase; unfold execOp; simp only [ho, resolve, invoke, builtin, Sem.run_bind, Sem.run_pure, Result.andThen_ok, List.map_toArray, List.map_cons, List.map_nil, hs, hx, hrun]; exact h v' w' h2 ⟨h3, h4.imp id fun h => ⟨_, h, Nat.le_refl _⟩⟩
def AqT (g : Nat) (v : Value) (i : Nat) : Prop := i = g ∨ v.ownBlock = some i
def Liq (W0 : World) (v u : Value) : Prop := u.ownBlock = v.ownBlock ∨ ∃ h, u.ownBlock = some h ∧ W0.heap.size ≤ h
theorem Liq.refl (W0 : World) (v : Value) : Liq W0 v v := .inl rfl
theorem Liq.old {W0 : World} {v u : Value} (h : Liq W0 v u) {i : Nat} (hi : i < W0.heap.size) (hu : u.ownBlock = some i) : v.ownBlock = some i := by
  rcases h with h | ⟨j, h, hj⟩
  · rw [← h, hu]
  · rw [hu] at h; injection h with h; omega
theorem Liq.trans {W0 W1 : World} {v u x : Value} (h : Liq W0 v u) (h' : Liq W1 u x) (hs : W0.heap.size ≤ W1.heap.size) : Liq W0 v x := by
  rcases h' with h' | ⟨j, h', hj⟩
  · rcases h with h | ⟨i, h, hi⟩
    · exact .inl (h'.trans h)
    · exact .inr ⟨i, h'.trans h, hi⟩
  · exact .inr ⟨j, h', by omega⟩
def AqS (W0 : World) (base g : Nat) (T e : TypeId) (C : Value → Array Value) (n m : Nat) (xs ys : List Value) (v : Value) : List Value → World → Prop
  | [], W => Keep (AqT g v) W0 W ∧ Bk W g T (C v) ∧ W.ownsRow base e 6 v n xs
  | [u], W => u = v ∧ Keep (AqT g v) W0 W ∧ Bk W g T (C v) ∧ W.ownsRow base e 6 v n xs
  | [_, u], W => Keep (AqT g v) W0 W ∧ Bk W g T (C v) ∧ W.ownsRow base e 6 u (n + m) ys ∧ Liq W0 v u
  | _ :: u :: _ :: _, W => Keep (AqT g v) W0 W ∧ Bk W g T (C u) ∧ W.ownsRow base e 6 u (n + m) ys ∧ Liq W0 v u
section
variable {W0 W : World} {base g n m : Nat} {T e : TypeId} {C : Value → Array Value} {xs ys : List Value} {v : Value} {vals : List Value}
theorem AqS.keep (h : AqS W0 base g T e C n m xs ys v vals W) : Keep (AqT g v) W0 W := by
  match vals, h with
  | [], h => exact h.1
  | [_], h => exact h.2.1
  | [_, _], h => exact h.1
  | _ :: _ :: _ :: _, h => exact h.1
theorem AqS.box (h : AqS W0 base g T e C n m xs ys v vals W) : ∃ u, Bk W g T (C u) := by
  match vals, h with
  | [], h => exact ⟨_, h.2.1⟩
  | [_], h => exact ⟨_, h.2.2.1⟩
  | [_, _], h => exact ⟨_, h.2.1⟩
  | _ :: _ :: _ :: _, h => exact ⟨_, h.2.1⟩
theorem AqS.alloc (h : AqS W0 base g T e C n m xs ys v vals W) (o : Obj) : AqS W0 base g T e C n m xs ys v vals (W.alloc o) := by
  match vals, h with
  | [], h => exact ⟨h.1.alloc o, h.2.1.alloc o, h.2.2.alloc o⟩
  | [_], h => exact ⟨h.1, h.2.1.alloc o, h.2.2.1.alloc o, h.2.2.2.alloc o⟩
  | [_, _], h => exact ⟨h.1.alloc o, h.2.1.alloc o, h.2.2.1.alloc o, h.2.2.2⟩
  | _ :: _ :: _ :: _, h => exact ⟨h.1.alloc o, h.2.1.alloc o, h.2.2.1.alloc o, h.2.2.2⟩
theorem AqS.start (hk : Bk W0 g T (C v)) (ho : W0.ownsRow base e 6 v n xs) : AqS W0 base g T e C n m xs ys v [] W0.drew := ⟨(Keep.refl _ _).drew, hk, ho⟩
theorem AqS.appended {u u' : Value} {W' : World} (h : AqS W0 base g T e C n m xs ys v [u] W) (hg : Grew W W' v u') (ho : W'.ownsRow base e 6 u' (n + m) ys) (hne : e ≠ T) : AqS W0 base g T e C n m xs ys v [u, u'] W' ∧ Keep (AqT g v) W W' := by
  obtain ⟨-, hK, hb, hr⟩ := h; have hK2 : Keep (AqT g v) W W' := Keep.of_grew hg fun i hi => .inr hi.symm; refine ⟨⟨hK.trans hK2 fun _ _ hi => hi, hg.bk hr hb hne, ho, ?_⟩, hK2⟩
  rcases hg.lies with hl | ⟨j, hl, hj⟩
  · exact .inl hl
  · exact .inr ⟨j, hl, Nat.le_trans hK.size hj⟩
theorem AqS.stored {u u' x : Value} {k : Nat} (h : AqS W0 base g T e C n m xs ys v [u, u'] W) (hC : (C v).setIfInBounds k u' = C u') (hne : e ≠ T) : AqS W0 base g T e C n m xs ys v [u, u', x] (W.setCell ⟨g, k, none⟩ u') ∧ Keep (AqT g v) W (W.setCell ⟨g, k, none⟩ u') := by
  obtain ⟨hK, hb, hr, hl⟩ := h; have h1 : Keep (fun i => i = g) W (W.setCell ⟨g, k, none⟩ u') := (Keep.refl (fun i => i = g) W).setCell (p := ⟨g, k, none⟩) (fun _ => rfl) u'; have h2 : Keep (AqT g v) W (W.setCell ⟨g, k, none⟩ u') := h1.mono fun i _ hi => .inl hi; refine ⟨⟨hK.trans h2 fun _ _ hi => hi, by have := hb.set_ k u'; rwa [hC] at this, h1.own hr (fun i hi he => ?_), hl⟩, h2⟩; subst he; exact own_ne hr hb hne hi
theorem AqS.done {x0 x1 x2 : Value} (h : AqS W0 base g T e C n m xs ys v [x0, x1, x2] W) : Keep (AqT g v) W0 W ∧ Bk W g T (C x1) ∧ W.ownsRow base e 6 x1 (n + m) ys ∧ Liq W0 v x1 := h
end
theorem own_blk6 {W : World} {base n : Nat} {e : TypeId} {v : Value} {xs : List Value} (h : W.ownsRow base e 6 v n xs) : ∀ i, v.ownBlock = some i → i < W.heap.size := fun i hi => (h.lt i hi).2
theorem own_base6 {W : World} {base n : Nat} {e : TypeId} {v : Value} {xs : List Value} (h : W.ownsRow base e 6 v n xs) : ∀ i, v.ownBlock = some i → base ≤ i := fun i hi => (h.lt i hi).1
end Go.Proofs.YtngkolcpbgibcaaGreatDoor
namespace Go.Proofs.YtngkolcpbgibcaaGreatDoor
open Go.RowKit Go.Lib
def FY (W : World) (X : Nat → Prop) (v : Value) (i : Nat) : Prop := i < W.heap.size ∧ v.ownBlock ≠ some i ∧ ¬ X i
abbrev OwnY (W : World) (X : Nat → Prop) (base : Nat) (v : Value) (L : List (Bool × List VX)) : Prop := OwnF argF W (FY W X v) base 55 v L
section
variable {W W' : World} {X X' T : Nat → Prop} {base : Nat} {v : Value} {L : List (Bool × List VX)}
theorem OwnY.keep (h : OwnY W X base v L) (hK : Keep T W W') (hT : ∀ i, v.ownBlock = some i → ¬ T i) (hX : ∀ i, T i → X i ∨ W.heap.size ≤ i) (hX' : ∀ i, X' i → X i ∨ W.heap.size ≤ i) : OwnY W' X' base v L :=
  OwnF.keep h hK hT fun i hi => ⟨⟨Nat.lt_of_lt_of_le hi.1 hK.size, hi.2.1, fun hx => (hX' i hx).elim hi.2.2 fun hs => by have := hi.1; omega⟩, hK.block i hi.1 fun ht => (hX i ht).elim hi.2.2 fun hs => by have := hi.1; omega⟩
theorem OwnY.below (h : OwnY W X base v L) (hb : Below W.heap.size W W') : OwnY W' X base v L :=
  h.keep (T := fun _ => False) (Keep.of_below hb fun i hi hB => by omega) (fun _ _ h => h) (fun _ h => h.elim) (fun _ h => .inl h)
theorem OwnY.read (h : OwnY W X base v L) : ∃ A c, v = .slice A L.length c ∧ L.length ≤ c ∧ RowF argF W (· < W.heap.size) A L.length L :=
  OwnF.read h (F' := (· < W.heap.size)) (fun i hi => (h.lt i hi).2) fun i hi => hi.1
end
theorem app_y {o : Oper} {a : Act} {W : World} {K : Act → World → Prop} {Q : Exit → Act → World → Prop} {X : Nat → Prop} {base g q n c : Nat} {A : Option Addr} {L : List (Bool × List VX)} {x : VX} (h : OwnY W X base (.slice A n c) L) (hg : Bk W g 32 (vc x).toArray) (hgo : (Value.slice A n c).ownBlock ≠ some g) (hgX : ¬ X g) (hq : Bk W q 55 (ac false (some ⟨g, 0, none⟩) 1 1).toArray) (hbase : base ≤ W.heap.size) (hlen : L.length ≤ 1000000000)
    (s y : Operand) (ho : o.op = .call { callee := .builtin .append, args := #[s, y], argTypes := #[34, 34] }) (hs : a.eval s = .slice A n c) (hy : a.eval y = .slice (some ⟨q, 0, none⟩) 1 1)
    (hk : ∀ A' n' c' W', OwnY W' X base (.slice A' n' c') (L ++ [(false, [x])]) → Keep (fun i => (Value.slice A n c).ownBlock = some i) W W' → ((Value.slice A' n' c').ownBlock = (Value.slice A n c).ownBlock ∨ ∃ k, (Value.slice A' n' c').ownBlock = some k ∧ W.heap.size ≤ k) → K (a.put o.dst (.slice A' n' c')) W') : o.wp Tryz.prog a W K Q := by
  obtain ⟨S, h1, h2, hown⟩ := h.ex; have hrd : Rd W W.heap.size 2 (some ⟨q, 0, none⟩) 1 (ac false (some ⟨g, 0, none⟩) 1 1) := ⟨rfl, fun _ => ⟨_, rfl, hq.lt, fun j u hu => by rw [addr_zero, hq.cell]; simpa using hu⟩⟩
  refine wp_app argRow s y ho hs hy hown hrd (ac_one _ _ _ _) (by unfold maxLen; omega) (by omega) hbase ?_; intro v' W' ho' hgr hb'; have hK := Keep.of_grew (S := fun i => (Value.slice A n c).ownBlock = some i) hgr fun i hi => hi.symm
  have hne : ∀ i, i < W.heap.size → (Value.slice A n c).ownBlock ≠ some i → v'.ownBlock ≠ some i := by
    intro i hi hn e
    rcases hgr.lies with hl | ⟨k, hl, hk⟩
    · exact hn (hl.symm.trans e)
    · rw [e] at hl; injection hl with hl; omega
  have hm : Move W (FY W X (.slice A n c)) W' (FY W' X v') := fun i hi => ⟨⟨Nat.lt_of_lt_of_le hi.1 hK.size, hne i hi.1 hi.2.1, hi.2.2⟩, hK.block i hi.1 hi.2.1⟩
  have hgb := hK.bk hg hgo
  have hx : argF.R W' (FY W' X v') (ac false (some ⟨g, 0, none⟩) 1 1) (false, [x]) := by
    refine ⟨_, 1, rfl, Nat.le_refl _, rfl, fun _ => ⟨_, rfl, ⟨hgb.lt, hne g hg.lt hgo, hgX⟩, fun i y hi => ?_⟩⟩
    cases i with
    | zero =>
      simp only [List.getElem?_cons_zero, Option.some.injEq] at hi; subst hi; exact ⟨_, rfl, fun j u hu => by rw [Nat.zero_mul, Nat.zero_add, addr_zero, hgb.cell]; simpa using hu⟩
    | succ i => simp at hi
  have hO : OwnY W' X base v' (L ++ [(false, [x])]) := OwnF.snoc h1 h2 hm hx ho'; obtain ⟨A', c', rfl, _⟩ := hO.form; exact hk A' _ c' W' hO hK hgr.lies
end Go.Proofs.YtngkolcpbgibcaaGreatDoor
namespace Go.Proofs.YtngkolcpbgibcaaGreatDoor
open Go.RowKit Go.Lib
section
variable {o : Oper} {a : Act} {w W : World} {K : Act → World → Prop} {Q : Exit → Act → World → Prop} {u : Value}
end
section
variable {w W W' : World} {g k : Nat} {v v' : Value} {cs cs' : List Value} {xs ys : List Value} {n m : Nat}
theorem aq_below (h : BX w [(g, 55, cs)] W) (ho : W.ownsRow w.heap.size 32 6 v n xs) (hK : Keep (AqT g v) W W') : Below w.heap.size w W' := by
  have hg : w.heap.size ≤ g := h.lo (g, _, _) (List.mem_cons_self ..); refine h.bel.trans (hK.below h.bel.size fun i hi ht => ?_)
  rcases ht with rfl | ht
  · omega
  · have := own_base6 ho i ht; omega
theorem bx_aq (h : BX w [(g, 55, cs)] W) (ho : W.ownsRow w.heap.size 32 6 v n xs) (hK : Keep (AqT g v) W W') (hb : Bk W' g 55 cs'.toArray) : BX w [(g, 55, cs')] W' := by
  have hg : w.heap.size ≤ g := h.lo (g, _, _) (List.mem_cons_self ..); refine ⟨h.bel.trans (hK.below h.bel.size fun i hi ht => ?_), fun b hb' => ?_, fun b hb' => ?_, by simp⟩
  · rcases ht with rfl | ht
    · omega
    · have := own_base6 ho i ht; omega
  · rw [List.mem_singleton] at hb'; subst hb'; exact hg
  · rw [List.mem_singleton] at hb'; subst hb'; exact hb
end
end Go.Proofs.YtngkolcpbgibcaaGreatDoor
namespace Go.Proofs.YtngkolcpbgibcaaGreatDoor
open Go.RowKit
section
variable {P : Program} {ops : Array Oper} {ph : List Nat} {Q : Exit → Act → World → Prop} {S : List (Option Value) → World → Prop} {E : World → World → Prop} {T : Nat → Value → World → Prop}
end
end Go.Proofs.YtngkolcpbgibcaaGreatDoor
namespace Go.Proofs.YtngkolcpbgibcaaGreatDoor
open Go.RowKit Go.Lib
theorem BX.swap {w W : World} {a b : Nat × TypeId × List Value} {B : Bxs} (h : BX w (a :: b :: B) W) : BX w (b :: a :: B) W := by
  refine ⟨h.bel, fun x hx => h.lo x ?_, fun x hx => h.bk x ?_, ?_⟩
  · simp only [List.mem_cons] at hx ⊢
    rcases hx with h | h | h
    · exact .inr (.inl h)
    · exact .inl h
    · exact .inr (.inr h)
  · simp only [List.mem_cons] at hx ⊢
    rcases hx with h | h | h
    · exact .inr (.inl h)
    · exact .inl h
    · exact .inr (.inr h)
  · have := h.nd; simp only [List.map_cons, List.nodup_cons, List.mem_cons, not_or] at this ⊢; exact ⟨⟨fun e => this.1.1 e.symm, this.2.1⟩, this.1.2, this.2.2⟩
def SP (w : World) (x y : VX) : List (Option Value) → World → Prop
  | [none, none, none, none], W => BX w [] W
  | [some v, none, none, none], W => ∃ g, v = .pointer (some ⟨g, 0, none⟩) ∧ BX w [(g, 32, vc .blank)] W
  | [none, some u, none, none], W => ∃ h, u = .pointer (some ⟨h, 0, none⟩) ∧ BX w [(h, 32, vc .blank)] W
  | [some v, some u, none, none], W => ∃ g h, v = .pointer (some ⟨g, 0, none⟩) ∧ u = .pointer (some ⟨h, 0, none⟩) ∧ BX w [(h, 32, vc .blank), (g, 32, vc .blank)] W
  | [some v, some u, some _, none], W => ∃ g h, v = .pointer (some ⟨g, 0, none⟩) ∧ u = .pointer (some ⟨h, 0, none⟩) ∧ BX w [(h, 32, vc .blank), (g, 32, vc x)] W
  | [some v, some u, some _, some _], W => ∃ g h, v = .pointer (some ⟨g, 0, none⟩) ∧ u = .pointer (some ⟨h, 0, none⟩) ∧ BX w [(h, 32, vc y), (g, 32, vc x)] W
  | _, _ => False
section
variable {w W : World} {x y : VX} {vals : List (Option Value)}
theorem SP.bel (h : SP w x y vals W) : Below w.heap.size w W := by
  unfold SP at h
  split at h
  · exact h.bel
  · obtain ⟨_, _, h⟩ := h; exact h.bel
  · obtain ⟨_, _, h⟩ := h; exact h.bel
  · obtain ⟨_, _, _, _, h⟩ := h; exact h.bel
  · obtain ⟨_, _, _, _, h⟩ := h; exact h.bel
  · obtain ⟨_, _, _, _, h⟩ := h; exact h.bel
  · exact h.elim
end
theorem len4 {α : Type} {l : List α} (h : l.length = 4) : ∃ a b c d, l = [a, b, c, d] := by
  match l, h with
  | [a, b, c, d], _ => exact ⟨a, b, c, d, rfl⟩
section
variable {w W : World} {x y : VX} {vals : List (Option Value)}
theorem SP.fin (h : SP w x y vals W) (hl : vals.length = 4) (ha : ∀ k : Nat, k < 4 → ∃ u : Value, vals[k]? = some (some u)) :
    ∃ g h, vals[0]? = some (some (.pointer (some ⟨g, 0, none⟩))) ∧ vals[1]? = some (some (.pointer (some ⟨h, 0, none⟩))) ∧ BX w [(h, 32, vc y), (g, 32, vc x)] W := by
  obtain ⟨a, b, c, d, rfl⟩ := len4 hl; obtain ⟨a, ha0⟩ := ha 0 (by omega); obtain ⟨b, hb0⟩ := ha 1 (by omega); obtain ⟨c, hc0⟩ := ha 2 (by omega); obtain ⟨d, hd0⟩ := ha 3 (by omega); simp only [List.getElem?_cons_succ, List.getElem?_cons_zero, Option.some.injEq] at ha0 hb0 hc0 hd0; subst ha0 hb0 hc0 hd0; obtain ⟨g, k, rfl, rfl, hB⟩ := h; exact ⟨g, k, rfl, rfl, hB⟩
end
theorem bx_join {w W W' : World} {B C : Bxs} (h0 : BX w B W) (h1 : BX W C W') : BX w (C ++ B) W' := by
  have hs := h0.bel.size; refine ⟨h0.bel.trans (h1.bel.mono hs), fun b hb => ?_, fun b hb => ?_, ?_⟩
  · rcases List.mem_append.1 hb with hb | hb
    · exact Nat.le_trans hs (h1.lo b hb)
    · exact h0.lo b hb
  · rcases List.mem_append.1 hb with hb | hb
    · exact h1.bk b hb
    · exact (h0.bk b hb).below h1.bel (h0.bk b hb).lt
  · rw [List.map_append]; refine List.nodup_append.2 ⟨h1.nd, h0.nd, fun a ha b hb e => ?_⟩; obtain ⟨x, hx, rfl⟩ := List.mem_map.1 ha; obtain ⟨y, hy, rfl⟩ := List.mem_map.1 hb; have h2 := h1.lo x hx; have h3 := (h0.bk y hy).lt; omega
def EQ (r : VX) (W W' : World) : Prop := W.heap.size ≤ W'.heap.size ∧ ∀ g T cs, Bk W g T cs → Bk W' g T cs ∨ (T = 32 ∧ cs = (vc .blank).toArray ∧ Bk W' g 32 (vc r).toArray)
section
variable {r x y : VX} {W W' : World}
theorem EQ.refl (r : VX) (W : World) : EQ r W W := ⟨Nat.le_refl _, fun _ _ _ h => .inl h⟩
def Lk (r x x' : VX) : Prop := x' = x ∨ (x = .blank ∧ x' = r)
def TwoQ (r x y : VX) (u : Value) (W : World) : Prop := ∃ q g h x' y', u = .slice (some ⟨q, 0, none⟩) 2 2 ∧ Bk W q 55 (ac false (some ⟨g, 0, none⟩) 1 1 ++ ac false (some ⟨h, 0, none⟩) 1 1).toArray ∧ Bk W g 32 (vc x').toArray ∧ Bk W h 32 (vc y').toArray ∧ Lk r x x' ∧ Lk r y y'
theorem TwoQ.row {u : Value} (h : TwoQ r x y u W) : ∃ q x' y', u = .slice (some ⟨q, 0, none⟩) 2 2 ∧ Lk r x x' ∧ Lk r y y' ∧ RowF argF W (· < W.heap.size) (some ⟨q, 0, none⟩) 2 [(false, [x']), (false, [y'])] := by
  obtain ⟨q, g, k, x', y', rfl, hq, hx, hy, lx, ly⟩ := h; exact ⟨q, x', y', rfl, lx, ly, row2 hq hx hy⟩
end
structure SW (w W0 : World) (B : Bxs) (W : World) : Prop where
  bx : BX w B W
  up : Below W0.heap.size W0 W
theorem SW.call {w W0 W W' : World} {B : Bxs} (h : SW w W0 B W) (hb : Below W.heap.size W W') : SW w W0 B W' := ⟨h.bx.call hb, h.up.trans (hb.mono h.up.size)⟩
theorem argv_own {w W : World} {l : List VX} {k nB cB : Nat} {B : Option Addr} (h : W.ownsRow w.heap.size 32 6 (.slice B nB cB) k (l.flatMap vc)) (hl : l.length = k) : nB = k ∧ ArgV W (.agg (ac true B k cB).toArray) (true, l) := by
  have hlen : ∀ (S : List VX), (S.map fun x => (vc x, x)).flatMap (·.1) = S.flatMap vc := fun S => by rw [List.flatMap_map]
  have ho : OwnF valF W (fun _ => False) w.heap.size 32 (.slice B nB cB) l := ⟨l.map fun x => (vc x, x), by rw [List.map_map]; exact List.map_id _, fun p hp => by
    obtain ⟨x, _, rfl⟩ := List.mem_map.1 hp
    rfl, by rw [hlen, hl]; exact h⟩
  obtain ⟨A, c, e, hc, hr⟩ := OwnF.read ho (F' := (· < W.heap.size)) (fun i hi => (ho.lt i hi).2) fun i hi => hi.elim; injection e with e1 e2 e3; subst e1 e2 e3; refine ⟨hl, B, cB, ?_, hc, hr⟩; rw [← hl]
end Go.Proofs.YtngkolcpbgibcaaGreatDoor
