/- fun.end by its contract, of two values. Condition: values may be, words are valid. -/
/- What FunTypes asks: many Args, one by one. No condition. -/
/- Pieces of words by fun.Apply: LEFT, RIGHT, MID, CONCAT; Args just made. Condition: the tables are laid. -/
/- What is left of a division, plainly: its sign, how great, and that so many whole ones make the number again. No program; no condition. -/
/- A drawn region that makes a box of its own beside Args just made: what is kept. No condition. -/
/- For rows of values: 'p.f = append(p.f, ..)' through a pointer, in a region that draws its order: what holds between its operations. No condition. -/
/- val.Check of any value by its contract; what it takes is one of the five forms. Condition: utf8.ValidString keeps its contract; a text's length is one. -/
/- cashbooklaw11.FunTypes where the value is long or none. Condition: the tables are laid. -/
import Derived.Test.YtngkolcpbgibcaaGreatDoorT2
import Derived.Test.YtngkolcpbgibcaaGreatDoorF4
import Derived.Test.YtngkolcpbgibcaaGreatDoorGx
import Derived.Test.YtngkolcpbgibcaaGreatDoorWide
import Derived.Test.YtngkolcpbgibcaaGreatDoorKd
import Derived.Test.YtngkolcpbgibcaaGreatDoorBX
set_option linter.unusedVariables false
set_option linter.unusedSimpArgs false
namespace Go.Proofs.YtngkolcpbgibcaaGreatDoor
open Go.RowKit Go.Lib
end Go.Proofs.YtngkolcpbgibcaaGreatDoor
namespace Go.Proofs.YtngkolcpbgibcaaGreatDoor
open Go.RowKit
def MX (W : World) (q : Nat) (x : VX) (cs : List Value) (k : Nat) : Prop := cs.length = 62 ∧ ∀ i, i < k → ∃ g, cs[2 * i]? = some (.bool false) ∧ cs[2 * i + 1]? = some (.slice (some ⟨g, 0, none⟩) 1 1) ∧ g ≠ q ∧ Bk W g 32 (vc x).toArray
theorem MX.below {W W' : World} {q k : Nat} {x : VX} {cs : List Value} (h : MX W q x cs k) (hb : Below W.heap.size W W') : MX W' q x cs k := ⟨h.1, fun i hi => by
  obtain ⟨g, h0, h1, h2, h3⟩ := h.2 i hi
  exact ⟨g, h0, h1, h2, h3.below hb h3.lt⟩⟩
theorem MX.put {W W' : World} {q k g : Nat} {x : VX} {cs : List Value} (h : MX W q x cs k) (hk : k < 31) (hg : g ≠ q) (hb : Bk W g 32 (vc x).toArray) (hK : Keep (fun i => i = q) W W') :
    MX W' q x (cs.take (k * 2) ++ ac false (some ⟨g, 0, none⟩) 1 1 ++ cs.drop (k * 2 + (ac false (some ⟨g, 0, none⟩) 1 1).length)) (k + 1) := by
  have hl := h.1; refine ⟨by simp [ac]; omega, fun i hi => ?_⟩
  by_cases hik : i < k
  · obtain ⟨g', h0, h1, h2, h3⟩ := h.2 i hik; refine ⟨g', ?_, ?_, h2, hK.bk h3 h2⟩
    · rw [List.append_assoc, List.getElem?_append_left (by simp; omega), List.getElem?_take_of_lt (by omega), h0]
    · rw [List.append_assoc, List.getElem?_append_left (by simp; omega), List.getElem?_take_of_lt (by omega), h1]
  · obtain rfl : i = k := by omega
    have e : (cs.take (i * 2)).length = i * 2 := by rw [List.length_take]; omega
    refine ⟨g, ?_, ?_, hg, hK.bk hb hg⟩
    · rw [List.append_assoc, List.getElem?_append_right (by omega), e, show 2 * i - i * 2 = 0 by omega]; rfl
    · rw [List.append_assoc, List.getElem?_append_right (by omega), e, show 2 * i + 1 - i * 2 = 1 by omega]; rfl
theorem MX.row {W : World} {q : Nat} {x : VX} {cs : List Value} (h : MX W q x cs 31) (hb : Bk W q 55 cs.toArray) : RowF argF W (· < W.heap.size) (some ⟨q, 0, none⟩) 31 (List.replicate 31 (false, [x])) := by
  refine ⟨by simp, fun _ => ⟨_, rfl, hb.lt, fun i y hi => ?_⟩⟩
  have hi31 : i < 31 := by
    have := (List.getElem?_eq_some_iff.1 hi).1
    simpa using this
  obtain rfl : y = (false, [x]) := by
    rw [List.getElem?_replicate, if_pos hi31] at hi; exact (Option.some.inj hi).symm
  obtain ⟨g, h0, h1, h2, h3⟩ := h.2 i hi31; refine ⟨ac false (some ⟨g, 0, none⟩) 1 1, ⟨_, 1, rfl, Nat.le_refl _, rfl, fun _ => ⟨_, rfl, h3.lt, fun i y hi => ?_⟩⟩, fun j u hu => ?_⟩
  · cases i with
    | zero =>
      simp only [List.getElem?_cons_zero, Option.some.injEq] at hi; subst hi; exact ⟨_, rfl, fun j u hu => by rw [Nat.zero_mul, Nat.zero_add, addr_zero, h3.cell]; simpa using hu⟩
    | succ i => simp at hi
  · have hu' : (ac false (some ⟨g, 0, none⟩) 1 1)[j]? = some u := hu; rw [addr_zero, hb.cell]
    rcases j with _ | _ | j
    · have : u = .bool false := by simpa [ac] using hu'.symm
      subst this; have : cs.toArray[i * 2 + 0]? = cs[2 * i]? := by rw [List.getElem?_toArray, show i * 2 + 0 = 2 * i by omega]
      exact this.trans h0
    · have : u = .slice (some ⟨g, 0, none⟩) 1 1 := by simpa [ac] using hu'.symm
      subst this; have : cs.toArray[i * 2 + 1]? = cs[2 * i + 1]? := by rw [List.getElem?_toArray, show i * 2 + 1 = 2 * i + 1 by omega]
      exact this.trans h1
    · simp [ac] at hu'
section
variable {o : Oper} {a : Act} {w W : World} {K : Act → World → Prop} {Q : Exit → Act → World → Prop} {bs : Bxs} {g : Nat} {T : TypeId} {cs : List Value} {b : Bool} {A : Option Addr} {n c : Nat}
end
theorem BX.drop1 {w W : World} {b : Nat × TypeId × List Value} {bs : Bxs} (h : BX w (b :: bs) W) : BX w bs W :=
  ⟨h.bel, fun b hm => h.lo b (List.mem_cons_of_mem _ hm), fun b hm => h.bk b (List.mem_cons_of_mem _ hm), (List.nodup_cons.1 h.nd).2⟩
def stX : VX → ByteArray
  | .str t => ⟨t.toArray⟩
  | _ => ⟨#[]⟩
theorem vc_str (x : VX) : (vc x)[3]? = some (.string (stX x)) := by cases x <;> rfl
section
variable {w : World} {A : Option Addr} {c : Nat} {x : VX}
end
end Go.Proofs.YtngkolcpbgibcaaGreatDoor
namespace Go.Proofs.YtngkolcpbgibcaaGreatDoor
open Go.RowKit Go.Lib
theorem row2 {W : World} {q a b : Nat} {x y : VX} (hq : Bk W q 55 (ac false (some ⟨a, 0, none⟩) 1 1 ++ ac false (some ⟨b, 0, none⟩) 1 1).toArray) (ha : Bk W a 32 (vc x).toArray) (hb : Bk W b 32 (vc y).toArray) : RowF argF W (· < W.heap.size) (some ⟨q, 0, none⟩) 2 [(false, [x]), (false, [y])] := by
  refine row_args (L := [(.agg (ac false (some ⟨a, 0, none⟩) 1 1).toArray, (false, [x])), (.agg (ac false (some ⟨b, 0, none⟩) 1 1).toArray, (false, [y]))]) (fun p hp => ?_) (by simpa [agCs] using hq); simp only [List.mem_cons, List.not_mem_nil, or_false] at hp
  rcases hp with rfl | rfl
  · exact argv_one ha
  · exact argv_one hb
theorem ag2 {x y : VX} (hx : PG x) (hy : PG y) : AG [(false, [x]), (false, [y])] := ag_ones (l := [x, y]) (by simp) (by intro z hz; simp at hz; rcases hz with rfl | rfl <;> assumption)
theorem ag3 {x y z : VX} (hx : PG x) (hy : PG y) (hz : PG z) : AG [(false, [x]), (false, [y]), (false, [z])] := ag_ones (l := [x, y, z]) (by simp) (by intro u hu; simp at hu; rcases hu with rfl | rfl | rfl <;> assumption)
section
variable {w : World} {A : Option Addr} {c : Nat} {x y z : VX}
end
end Go.Proofs.YtngkolcpbgibcaaGreatDoor
namespace Go.Proofs.YtngkolcpbgibcaaGreatDoor
end Go.Proofs.YtngkolcpbgibcaaGreatDoor
namespace Go.Proofs.YtngkolcpbgibcaaGreatDoor
open Go.RowKit
def KB (W W' : World) : Prop := W.heap.size ≤ W'.heap.size ∧ ∀ g T cs, Bk W g T cs → (T = 32 → cs ≠ (vc .blank).toArray) → Bk W' g T cs
theorem KB.refl (W : World) : KB W W := ⟨Nat.le_refl _, fun _ _ _ h _ => h⟩
theorem bk_inj {W : World} {g : Nat} {T T' : TypeId} {cs cs' : Array Value} (h : Bk W g T cs) (h' : Bk W g T' cs') : T = T' ∧ cs = cs' := by
  unfold Bk at h h'; rw [h] at h'; injection h' with h'; injection h' with h1 h2; exact ⟨h2, h1⟩
def TwoN (m : Int) (s : Nat) (n : Int) (t : Nat) (u : Value) (W : World) : Prop := ∃ q a b, u = .slice (some ⟨q, 0, none⟩) 2 2 ∧ Bk W q 55 (ac false (some ⟨a, 0, none⟩) 1 1 ++ ac false (some ⟨b, 0, none⟩) 1 1).toArray ∧ Bk W a 32 (vc (.num m s)).toArray ∧ Bk W b 32 (vc (.num n t)).toArray
theorem TwoN.row {m n : Int} {s t : Nat} {u : Value} {W : World} (h : TwoN m s n t u W) : ∃ q, u = .slice (some ⟨q, 0, none⟩) 2 2 ∧ RowF argF W (· < W.heap.size) (some ⟨q, 0, none⟩) 2 [(false, [.num m s]), (false, [.num n t])] := by
  obtain ⟨q, a, b, rfl, hq, ha, hb⟩ := h; refine ⟨q, rfl, row_args (L := [(.agg (ac false (some ⟨a, 0, none⟩) 1 1).toArray, (false, [.num m s])), (.agg (ac false (some ⟨b, 0, none⟩) 1 1).toArray, (false, [.num n t]))]) (fun p hp => ?_) (by simpa [agCs] using hq)⟩; simp only [List.mem_cons, List.not_mem_nil, or_false] at hp
  rcases hp with rfl | rfl
  · exact argv_one ha
  · exact argv_one hb
def SA (w : World) (B : Bxs) (r : VX) (vals : List Value) (W : World) : Prop := match vals with
  | [] => BX w B W
  | [v] => ∃ g, v = .pointer (some ⟨g, 0, none⟩) ∧ BX w ((g, 32, vc .blank) :: B) W
  | v :: _ :: _ => ∃ g, v = .pointer (some ⟨g, 0, none⟩) ∧ BX w ((g, 32, vc r) :: B) W
section
variable {w W W' : World} {B : Bxs} {r : VX} {vals : List Value}
theorem BX.dropt {b : Nat × TypeId × List Value} (h : BX w (b :: B) W) : BX w B W :=
  ⟨h.bel, fun b hm => h.lo b (List.mem_cons_of_mem _ hm), fun b hm => h.bk b (List.mem_cons_of_mem _ hm), (List.nodup_cons.1 h.nd).2⟩
theorem SA.old (h : SA w B r vals W) : BX w B W := by
  match vals, h with
  | [], h => exact h
  | [_], ⟨_, _, h⟩ => exact h.dropt
  | _ :: _ :: _, ⟨_, _, h⟩ => exact h.dropt
theorem SA.call (h : SA w B r vals W) (hb : Below W.heap.size W W') : SA w B r vals W' := by
  match vals, h with
  | [], h => exact BX.call h hb
  | [_], ⟨g, e, h⟩ => exact ⟨g, e, h.call hb⟩
  | _ :: _ :: _, ⟨g, e, h⟩ => exact ⟨g, e, h.call hb⟩
end
theorem lands_stk {o : Oper} {a : Act} {w W : World} {g i : Nat} {ty : TypeId} {cs vs : List Value} {bs : Bxs} {S : World → Prop} {E : World → World → Prop} {R : Value → World → Prop} (T : RowT ty vs.length) (h1 : ∀ u ∈ vs, u.oneCell' = true) (H : BX w bs W) (hi : bs[i]? = some (g, ty, cs)) (hl : cs.length = vs.length) (x y : Operand) (ho : o.op = .store ty x y) (hx : a.eval x = .pointer (some ⟨g, 0, none⟩)) (hy : a.eval y = .agg vs.toArray)
    (h : ∀ W', BX w (bs.set i (g, ty, vs)) W' → Keep (fun j => j = g) W W' → R undef W' ∧ S W' ∧ E W W') : Lands Tryz.prog S E R W ((execOp a.eval o).run Tryz.prog W) := by
  have hb := H.get hi
  have ht : W.there g 0 vs.toArray.size := fun j hj => by
    rw [List.size_toArray] at hj; rw [Nat.zero_add, hb.cell, hb.frozen]; exact ⟨by simp; omega, rfl⟩
  have hr : (execOp a.eval o).run Tryz.prog W = .ok .skip (W.setCells g 0 vs) := by
    unfold execOp; simp only [ho, hx, hy, Instr.storeAt, Instr.sureAddr, Sem.run_bind, Sem.run_pure, Result.andThen_ok, run_storeVar_mid W g 0 ty vs.toArray ht (by rw [List.size_toArray]; exact T.size) (all_oneCell_toArray h1)]
  rw [hr]; have h2 := setCells_bk vs 0 cs W hb (by omega); have e : cs.take 0 ++ vs ++ cs.drop (0 + vs.length) = vs := by simp [List.drop_eq_nil_of_le (Nat.le_of_eq hl)]
  rw [e] at h2; exact h _ (H.turn hi h2 (setCells_keep _ _ _)) (setCells_keep _ _ _)
end Go.Proofs.YtngkolcpbgibcaaGreatDoor
namespace Go.Proofs.YtngkolcpbgibcaaGreatDoor
open Go.RowKit Go.Lib
theorem lands_ap6 {P : Program} {w : World} {t e size bytes m c n base B : Nat} {z v : Value} {A : Option Addr} {xs news : List Value} {S : World → Prop} {F : World → World → Prop} {R : Value → World → Prop} {o : Oper} {a : Act} (E : ElemRow P t e z size bytes) (s x : Operand)
    (ho : o.op = .call { callee := .builtin .append, args := #[s, x], argTypes := #[t, t] })
    (hs : a.eval s = v) (hx : a.eval x = .slice A m c) (hown : w.ownsRow base e size v n xs) (hr : Rd w B size A m news) (h1 : ∀ u ∈ news, u.oneCell' = true)
    (h63 : n + m ≤ maxLen) (hbytes : (n + m) * bytes ≤ 140737488355328) (hbase : base ≤ w.heap.size)
    (h : ∀ v' w', w'.ownsRow base e size v' (n + m) (xs ++ news) → Grew w w' v v' → R v' w' ∧ S w' ∧ F w w') :
    Lands P S F R w ((execOp a.eval o).run P w) := by
  obtain ⟨v', w', hrun, h2, h3, h4⟩ := run_app (ty := o.type) (c := c) E hown hr h1 h63 hbytes hbase; unfold execOp; simp only [ho, resolve, invoke, builtin, Sem.run_bind, Sem.run_pure, Result.andThen_ok, List.map_toArray, List.map_cons, List.map_nil, hs, hx, hrun]; exact h v' w' h2 ⟨h3, h4.imp id fun h => ⟨_, h, Nat.le_refl _⟩⟩
theorem bk_rd6 {W : World} {g k n : Nat} {t : TypeId} {cs : List Value} (h : Bk W g t cs.toArray) (hk : cs.length = n * k) : Rd W W.heap.size k (some ⟨g, 0, none⟩) n cs := by
  refine ⟨hk, fun _ => ⟨_, rfl, h.lt, fun j u hu => ?_⟩⟩; rw [addr_zero, h.cell]
  simpa using hu
def AqT (g : Nat) (v : Value) (i : Nat) : Prop := i = g ∨ v.ownBlock = some i
def Liq (W0 : World) (v u : Value) : Prop := u.ownBlock = v.ownBlock ∨ ∃ h, u.ownBlock = some h ∧ W0.heap.size ≤ h
theorem Liq.refl (W0 : World) (v : Value) : Liq W0 v v := .inl rfl
theorem Liq.old {W0 : World} {v u : Value} (h : Liq W0 v u) {i : Nat} (hi : i < W0.heap.size) (hu : u.ownBlock = some i) : v.ownBlock = some i := by
  rcases h with h | ⟨j, h, hj⟩
  · rw [← h, hu]
  · rw [hu] at h; injection h with h; omega
theorem Liq.trans {W0 W1 : World} {v u x : Value} (h : Liq W0 v u) (h' : Liq W1 u x) (hs : W0.heap.size ≤ W1.heap.size) : Liq W0 v x := by
  rcases h' with h' | ⟨j, h', hj⟩
  · rcases h with h | ⟨i, h, hi⟩
    · exact .inl (h'.trans h)
    · exact .inr ⟨i, h'.trans h, hi⟩
  · exact .inr ⟨j, h', by omega⟩
def AqS (W0 : World) (base g : Nat) (T e : TypeId) (C : Value → Array Value) (n m : Nat) (xs ys : List Value) (v : Value) : List Value → World → Prop
  | [], W => Keep (AqT g v) W0 W ∧ Bk W g T (C v) ∧ W.ownsRow base e 6 v n xs
  | [u], W => u = v ∧ Keep (AqT g v) W0 W ∧ Bk W g T (C v) ∧ W.ownsRow base e 6 v n xs
  | [_, u], W => Keep (AqT g v) W0 W ∧ Bk W g T (C v) ∧ W.ownsRow base e 6 u (n + m) ys ∧ Liq W0 v u
  | _ :: u :: _ :: _, W => Keep (AqT g v) W0 W ∧ Bk W g T (C u) ∧ W.ownsRow base e 6 u (n + m) ys ∧ Liq W0 v u
section
variable {W0 W : World} {base g n m : Nat} {T e : TypeId} {C : Value → Array Value} {xs ys : List Value} {v : Value} {vals : List Value}
theorem AqS.keep (h : AqS W0 base g T e C n m xs ys v vals W) : Keep (AqT g v) W0 W := by
  match vals, h with
  | [], h => exact h.1
  | [_], h => exact h.2.1
  | [_, _], h => exact h.1
  | _ :: _ :: _ :: _, h => exact h.1
theorem AqS.box (h : AqS W0 base g T e C n m xs ys v vals W) : ∃ u, Bk W g T (C u) := by
  match vals, h with
  | [], h => exact ⟨_, h.2.1⟩
  | [_], h => exact ⟨_, h.2.2.1⟩
  | [_, _], h => exact ⟨_, h.2.1⟩
  | _ :: _ :: _ :: _, h => exact ⟨_, h.2.1⟩
theorem AqS.alloc (h : AqS W0 base g T e C n m xs ys v vals W) (o : Obj) : AqS W0 base g T e C n m xs ys v vals (W.alloc o) := by
  match vals, h with
  | [], h => exact ⟨h.1.alloc o, h.2.1.alloc o, h.2.2.alloc o⟩
  | [_], h => exact ⟨h.1, h.2.1.alloc o, h.2.2.1.alloc o, h.2.2.2.alloc o⟩
  | [_, _], h => exact ⟨h.1.alloc o, h.2.1.alloc o, h.2.2.1.alloc o, h.2.2.2⟩
  | _ :: _ :: _ :: _, h => exact ⟨h.1.alloc o, h.2.1.alloc o, h.2.2.1.alloc o, h.2.2.2⟩
theorem AqS.start (hk : Bk W0 g T (C v)) (ho : W0.ownsRow base e 6 v n xs) : AqS W0 base g T e C n m xs ys v [] W0.drew := ⟨(Keep.refl _ _).drew, hk, ho⟩
theorem AqS.appended {u u' : Value} {W' : World} (h : AqS W0 base g T e C n m xs ys v [u] W) (hg : Grew W W' v u') (ho : W'.ownsRow base e 6 u' (n + m) ys) (hne : e ≠ T) : AqS W0 base g T e C n m xs ys v [u, u'] W' ∧ Keep (AqT g v) W W' := by
  obtain ⟨-, hK, hb, hr⟩ := h; have hK2 : Keep (AqT g v) W W' := Keep.of_grew hg fun i hi => .inr hi.symm; refine ⟨⟨hK.trans hK2 fun _ _ hi => hi, hg.bk hr hb hne, ho, ?_⟩, hK2⟩
  rcases hg.lies with hl | ⟨j, hl, hj⟩
  · exact .inl hl
  · exact .inr ⟨j, hl, Nat.le_trans hK.size hj⟩
theorem AqS.stored {u u' x : Value} {k : Nat} (h : AqS W0 base g T e C n m xs ys v [u, u'] W) (hC : (C v).setIfInBounds k u' = C u') (hne : e ≠ T) : AqS W0 base g T e C n m xs ys v [u, u', x] (W.setCell ⟨g, k, none⟩ u') ∧ Keep (AqT g v) W (W.setCell ⟨g, k, none⟩ u') := by
  obtain ⟨hK, hb, hr, hl⟩ := h; have h1 : Keep (fun i => i = g) W (W.setCell ⟨g, k, none⟩ u') := (Keep.refl (fun i => i = g) W).setCell (p := ⟨g, k, none⟩) (fun _ => rfl) u'; have h2 : Keep (AqT g v) W (W.setCell ⟨g, k, none⟩ u') := h1.mono fun i _ hi => .inl hi; refine ⟨⟨hK.trans h2 fun _ _ hi => hi, by have := hb.set_ k u'; rwa [hC] at this, h1.own hr (fun i hi he => ?_), hl⟩, h2⟩; subst he; exact own_ne hr hb hne hi
theorem AqS.done {x0 x1 x2 : Value} (h : AqS W0 base g T e C n m xs ys v [x0, x1, x2] W) : Keep (AqT g v) W0 W ∧ Bk W g T (C x1) ∧ W.ownsRow base e 6 x1 (n + m) ys ∧ Liq W0 v x1 := h
end
def AqX (n0 : Nat) (x : VX) (u : Value) (W : World) : Prop := ∃ h, u = .slice (some ⟨h, 0, none⟩) 1 1 ∧ n0 ≤ h ∧ Bk W h 32 (vc x).toArray
theorem aqx_stable {n0 g : Nat} {v : Value} {x : VX} (hg : g < n0) (hv : ∀ i, v.ownBlock = some i → i < n0) : Stable (fun W W' => Keep (AqT g v) W W') (AqX n0 x) := by
  rintro u W W' hK ⟨h, rfl, hh, hb⟩; refine ⟨h, rfl, hh, hK.bk hb ?_⟩; rintro (rfl | hi)
  · omega
  · have := hv _ hi; omega
theorem own_blk6 {W : World} {base n : Nat} {e : TypeId} {v : Value} {xs : List Value} (h : W.ownsRow base e 6 v n xs) : ∀ i, v.ownBlock = some i → i < W.heap.size := fun i hi => (h.lt i hi).2
theorem own_base6 {W : World} {base n : Nat} {e : TypeId} {v : Value} {xs : List Value} (h : W.ownsRow base e 6 v n xs) : ∀ i, v.ownBlock = some i → base ≤ i := fun i hi => (h.lt i hi).1
end Go.Proofs.YtngkolcpbgibcaaGreatDoor
namespace Go.Proofs.YtngkolcpbgibcaaGreatDoor
open Go.RowKit
def ckV (k m s : Int) (t : ByteArray) (b : Bool) (e : Int) : Int :=
  if k = 1 then (if t.toList = [] ∧ b = false ∧ e = 0 then ckE m s else 1)
  else if k = 2 then (if m = 0 ∧ s = 0 ∧ b = false ∧ e = 0 then uE t.data.toList else 1)
  else if k = 3 then (if m = 0 ∧ s = 0 ∧ t.toList = [] ∧ e = 0 then 0 else 1)
  else if k = 4 then (if m = 0 ∧ s = 0 ∧ t.toList = [] ∧ b = false then feE e else 1)
  else if k = 0 then (if m = 0 ∧ s = 0 ∧ t.toList = [] ∧ b = false ∧ e = 0 then 0 else 1) else 1
theorem empty_text {t : ByteArray} (h : t.toList = []) : t = ⟨#[]⟩ := toList_inj (by rw [h, ByteArray.toList_eq])
theorem check_v {w : World} (HV : Val w) (k m s : Int) (t : ByteArray) (b : Bool) (e : Int) (ht : t.size ≤ 140737488355328) :
    Calls Tryz.prog 17 #[.agg #[.int .i64 k, .int .i64 m, .int .i64 s, .string t, .bool b, .int .i64 e]] w fun x w' => x = .returned (.int .i64 (ckV k m s t b e)) ∧ Below w.heap.size w w' := by
  unfold ckV
  by_cases h1 : k = 1
  · subst h1; rw [if_pos rfl]
    by_cases h : t.toList = [] ∧ b = false ∧ e = 0
    · rw [if_pos h]; obtain ⟨h0, rfl, rfl⟩ := h; rw [empty_text h0]; exact check_num m s
    · rw [if_neg h]; exact check_bad_num m s t b e h
  rw [if_neg h1]
  by_cases h2 : k = 2
  · subst h2; rw [if_pos rfl]
    by_cases h : m = 0 ∧ s = 0 ∧ b = false ∧ e = 0
    · rw [if_pos h]; obtain ⟨rfl, rfl, rfl, rfl⟩ := h; exact check_str HV t ht
    · rw [if_neg h]; exact check_bad_str m s t b e h
  rw [if_neg h2]
  by_cases h3 : k = 3
  · subst h3; rw [if_pos rfl]
    by_cases h : m = 0 ∧ s = 0 ∧ t.toList = [] ∧ e = 0
    · rw [if_pos h]; obtain ⟨rfl, rfl, h0, rfl⟩ := h; rw [empty_text h0]; exact check_bool b
    · rw [if_neg h]; exact check_bad_bool m s t b e h
  rw [if_neg h3]
  by_cases h4 : k = 4
  · subst h4; rw [if_pos rfl]
    by_cases h : m = 0 ∧ s = 0 ∧ t.toList = [] ∧ b = false
    · rw [if_pos h]; obtain ⟨rfl, rfl, h0, rfl⟩ := h; rw [empty_text h0]; exact check_err e
    · rw [if_neg h]; exact check_bad_err m s t b e h
  rw [if_neg h4]
  by_cases h0 : k = 0
  · subst h0; rw [if_pos rfl]
    by_cases h : m = 0 ∧ s = 0 ∧ t.toList = [] ∧ b = false ∧ e = 0
    · rw [if_pos h]; obtain ⟨rfl, rfl, h0, rfl, rfl⟩ := h; rw [empty_text h0]; exact check_blank
    · rw [if_neg h]; exact check_bad_blank m s t b e h
  rw [if_neg h0]
  by_cases h : m = 0 ∧ s = 0 ∧ t.toList = [] ∧ b = false ∧ e = 0
  · obtain ⟨rfl, rfl, hh, rfl, rfl⟩ := h; rw [empty_text hh]; exact check_none k h0 h1 h2 h3 h4
  · exact check_bad_none k m s t b e h1 h2 h3 h4 h
theorem gd_ck {m s : Int} (h : ckE m s = 0) (h0 : -9223372036854775808 ≤ m) (h1 : m ≤ 9223372036854775807) : ∃ t : Nat, s = (t : Int) ∧ Gd m t := by
  unfold ckE at h
  by_cases hc : s < 0 ∨ 9 < s ∨ (0 < s ∧ m % 10 = 0)
  · rw [if_pos hc] at h; omega
  · refine ⟨s.toNat, by omega, ⟨h0, h1, by omega, ?_⟩⟩
    rcases Nat.eq_zero_or_pos s.toNat with h2 | h2
    · exact .inl h2
    · right; omega
theorem ckV_form {k m s : Int} {t : ByteArray} {b : Bool} {e : Int} (h : ckV k m s t b e = 0) (m0 : -9223372036854775808 ≤ m) (m1 : m ≤ 9223372036854775807) :
    ∃ x : VX, OkX x ∧ shortX t.size x ∧ k = x.kind ∧ .agg #[.int .i64 k, .int .i64 m, .int .i64 s, .string t, .bool b, .int .i64 e] = xval x := by
  unfold ckV at h
  by_cases h1 : k = 1
  · subst h1; rw [if_pos rfl] at h
    by_cases hh : t.toList = [] ∧ b = false ∧ e = 0
    · rw [if_pos hh] at h; obtain ⟨h0, rfl, rfl⟩ := hh; obtain ⟨n, rfl, hg⟩ := gd_ck h m0 m1; rw [empty_text h0]; exact ⟨.num m n, hg, trivial, rfl, rfl⟩
    · rw [if_neg hh] at h; omega
  rw [if_neg h1] at h
  by_cases h2 : k = 2
  · subst h2; rw [if_pos rfl] at h
    by_cases hh : m = 0 ∧ s = 0 ∧ b = false ∧ e = 0
    · rw [if_pos hh] at h; obtain ⟨rfl, rfl, rfl, rfl⟩ := hh; exact ⟨.str t.data.toList, h, Nat.le_of_eq Array.length_toList, rfl, rfl⟩
    · rw [if_neg hh] at h; omega
  rw [if_neg h2] at h
  by_cases h3 : k = 3
  · subst h3; rw [if_pos rfl] at h
    by_cases hh : m = 0 ∧ s = 0 ∧ t.toList = [] ∧ e = 0
    · obtain ⟨rfl, rfl, h0, rfl⟩ := hh; rw [empty_text h0]; exact ⟨.bool b, trivial, trivial, rfl, rfl⟩
    · rw [if_neg hh] at h; omega
  rw [if_neg h3] at h
  by_cases h4 : k = 4
  · subst h4; rw [if_pos rfl] at h
    by_cases hh : m = 0 ∧ s = 0 ∧ t.toList = [] ∧ b = false
    · rw [if_pos hh] at h; obtain ⟨rfl, rfl, h0, rfl⟩ := hh; rw [empty_text h0]; refine ⟨.err e, ?_, trivial, rfl, rfl⟩; unfold feE at h
      by_cases he : e = 0 ∨ e = 7 ∨ e = 15 ∨ e = 23 ∨ e = 29 ∨ e = 36 ∨ e = 42
      · exact he
      · rw [if_neg he] at h; omega
    · rw [if_neg hh] at h; omega
  rw [if_neg h4] at h
  by_cases h0 : k = 0
  · subst h0; rw [if_pos rfl] at h
    by_cases hh : m = 0 ∧ s = 0 ∧ t.toList = [] ∧ b = false ∧ e = 0
    · obtain ⟨rfl, rfl, h0, rfl, rfl⟩ := hh; rw [empty_text h0]; exact ⟨.blank, trivial, trivial, rfl, rfl⟩
    · rw [if_neg hh] at h; omega
  rw [if_neg h0] at h; omega
end Go.Proofs.YtngkolcpbgibcaaGreatDoor
namespace Go.Proofs.YtngkolcpbgibcaaGreatDoor
open Go.RowKit
end Go.Proofs.YtngkolcpbgibcaaGreatDoor
