/- Words for memory, used by all walks of this seat: a slice that reads as a list of cells, kept while only newer blocks are written. No condition. -/
/- A region that draws its order, one operation at a time: if in every state in which an operation may come up it makes what is foretold of its slot, and breaks nothing that is foretold of the others, then every order does. No program; no condition. -/
import Derived.WalkKit
import Derived.WalkSpells
import Derived.WalkLawsBesides
import Derived.Outline
import Derived.Deep.LoopGhost
import Derived.Deep.QuietTactic
import Derived.BigQuiet
import Derived.Lib.Hide
import Derived.Laws.BytesArg
import Derived.Maps.AppendAt
import Derived.Deep.Draws
import Derived.Deep.AppendLies
import Derived.ScopeJumps
import Derived.Deep.DeepCutAuto
import Derived.Deep.RegionLaw
import Derived.WalkMore
import Derived.Orders
set_option linter.unusedVariables false
set_option linter.unusedSimpArgs false
namespace Go.Proofs.YtlaiocdnddnnaaaGreatDoor
open Go.RowKit
structure Rd (w : World) (B k : Nat) (A : Option Addr) (n : Nat) (xs : List Value) : Prop where
  len : xs.length = n * k
  at_ : 0 < n → ∃ a, A = some a ∧ a.block < B ∧ ∀ j u, xs[j]? = some u → w.cell? (a.add j) = some u
theorem add_block (a : Addr) (n : Nat) : (a.add n).block = a.block := by unfold Addr.add; split <;> rfl
theorem add_add (a : Addr) (i j : Nat) : (a.add i).add j = a.add (i + j) := by
  unfold Addr.add
  by_cases hi : i = 0 <;> by_cases hj : j = 0 <;> simp [hi, hj, Nat.add_assoc]
variable {w w' : World} {B B' k n : Nat} {A : Option Addr} {xs : List Value}
theorem Rd.nil (w : World) (B k : Nat) (A : Option Addr) : Rd w B k A 0 [] := ⟨by simp, fun h => absurd h (by omega)⟩
theorem Rd.keep (h : Rd w B k A n xs) (hk : ∀ p : Addr, p.block < B → w'.cell? p = w.cell? p) : Rd w' B k A n xs := by
  refine ⟨h.len, fun hn => ?_⟩; obtain ⟨a, e, hb, hc⟩ := h.at_ hn; exact ⟨a, e, hb, fun j u hu => by rw [hk _ (by rw [add_block]; exact hb)]; exact hc j u hu⟩
theorem Rd.below (h : Rd w B k A n xs) (hb : Below B w w') : Rd w' B k A n xs := h.keep fun _ hp => hb.cell hp
theorem Rd.mono (h : Rd w B k A n xs) (hB : B ≤ B') : Rd w B' k A n xs := by
  refine ⟨h.len, fun hn => ?_⟩; obtain ⟨a, e, hb, hc⟩ := h.at_ hn; exact ⟨a, e, by omega, hc⟩
theorem Rd.belowMono (h : Rd w B k A n xs) (hb : Below B' w w') (hB : B ≤ B') : Rd w' B k A n xs := h.below (hb.mono hB)
theorem Rd.cell (h : Rd w B 1 A n xs) {i : Nat} (hi : i < n) : ∃ a u, A = some a ∧ a.block < B ∧ xs[i]? = some u ∧ w.cell? (a.add i) = some u := by
  obtain ⟨a, e, hb, hc⟩ := h.at_ (by omega); have hl : i < xs.length := by have := h.len; omega
  exact ⟨a, xs[i], e, hb, List.getElem?_eq_getElem hl, hc i _ (List.getElem?_eq_getElem hl)⟩
theorem Rd.cut (h : Rd w B k A n xs) {i j cap : Nat} (hij : i ≤ j) (hj : j ≤ n) (hc : n ≤ cap) :
    Rd w B k (if cap = i then A else A.map (·.add (i * k))) (j - i) ((xs.drop (i * k)).take ((j - i) * k)) := by
  refine ⟨?_, fun hn => ?_⟩
  · rw [List.length_take, List.length_drop, h.len, ← Nat.sub_mul]; exact Nat.min_eq_left (Nat.mul_le_mul_right _ (by omega))
  obtain ⟨a, rfl, hb, hcell⟩ := h.at_ (by omega); rw [if_neg (by omega)]; refine ⟨a.add (i * k), rfl, by rw [add_block]; exact hb, fun m u hu => ?_⟩; rw [add_add]; refine hcell _ u ?_; rw [List.getElem?_take] at hu
  split at hu
  · rw [← hu, List.getElem?_drop]
  · cases hu
theorem own_form {base : Nat} {e : TypeId} {v : Value} (h : w.ownsRow base e k v n xs) :
    ∃ A c, v = .slice A n c ∧ n ≤ c ∧ c ≤ maxLen ∧ Rd w w.heap.size k A n xs := by
  rcases h.2 with ⟨rfl, rfl⟩ | ⟨g, cap, cur, rfl, hb, hg, hnc, hm, hs, ht⟩
  · have : xs = [] := List.eq_nil_of_length_eq_zero (by simpa using h.1); subst this; exact ⟨none, 0, rfl, Nat.le_refl _, by simp [maxLen], Rd.nil _ _ _ _⟩
  · exact ⟨_, cap, rfl, hnc, hm, h.1, fun hn => ⟨_, rfl, (Array.getElem?_eq_some_iff.1 hg).1, h.cells (g := g) rfl⟩⟩
def Bk (w : World) (g : Nat) (t : TypeId) (cs : Array Value) : Prop := w.heap[g]? = some (.cells cs t (0, 0))
section
variable {g : Nat} {t t' : TypeId} {cs : Array Value} {v v' v'' : Value} {base : Nat} {w'' : World}
theorem Bk.lt (h : Bk w g t cs) : g < w.heap.size := by
  unfold Bk at h; exact (Array.getElem?_eq_some_iff.1 h).1
theorem Bk.cell (h : Bk w g t cs) (i : Nat) : w.cell? ⟨g, i, none⟩ = cs[i]? := cell_of_row w g i cs t (0, 0) h
theorem Bk.frozen (h : Bk w g t cs) (i : Nat) : w.frozen? ⟨g, i, none⟩ = false := by
  unfold Bk at h; simp [World.frozen?, h]
theorem Bk.below (h : Bk w g t cs) (hb : Below B w w') (hg : g < B) : Bk w' g t cs := by
  unfold Bk at *; rw [hb.block g hg, h]
theorem Bk.new (w : World) (t : TypeId) (cs : Array Value) : Bk (w.alloc (.cells cs t)) w.heap.size t cs := heap_alloc_new w _
theorem Bk.alloc (h : Bk w g t cs) (o : Obj) : Bk (w.alloc o) g t cs := by
  have := h.lt; unfold Bk at *; rw [Below.heap_alloc w o g this, h]
theorem Bk.set_ (h : Bk w g t cs) (i : Nat) (u : Value) : Bk (w.setCell ⟨g, i, none⟩ u) g t (cs.setIfInBounds i u) := by
  unfold Bk at h ⊢; simp [World.setCell, Array.getElem?_modify, h]
structure Grew (w w' : World) (v v' : Value) : Prop where
  grown : w.grownBy w' v.ownBlock
  lies : v'.ownBlock = v.ownBlock ∨ ∃ g, v'.ownBlock = some g ∧ w.heap.size ≤ g
theorem Grew.refl (w : World) (v : Value) : Grew w w v v := ⟨World.grownBy.refl w _, .inl rfl⟩
theorem Grew.trans (h : Grew w w' v v') (h' : Grew w' w'' v' v'') : Grew w w'' v v'' := by
  have hs := h.grown.size; refine ⟨⟨h'.grown.os.trans h.grown.os, h'.grown.tape.trans h.grown.tape, h'.grown.output.trans h.grown.output, Nat.le_trans hs h'.grown.size, fun k hk hne => ?_⟩, ?_⟩
  · refine (h'.grown.block k (by omega) fun e => ?_).trans (h.grown.block k hk hne)
    rcases h.lies with hl | ⟨g, hl, hg⟩
    · exact hne (e.trans hl)
    · rw [hl] at e; injection e with e; omega
  · rcases h'.lies with hl | ⟨g, hl, hg⟩
    · rcases h.lies with hm | ⟨g, hm, hg⟩
      · exact .inl (hl.trans hm)
      · exact .inr ⟨g, hl.trans hm, hg⟩
    · exact .inr ⟨g, hl, by omega⟩
theorem Grew.after {B : Nat} (hb : Below B w w') (hB : w.heap.size ≤ B) (h : Grew w' w'' v v') : Grew w w'' v v' := by
  have hs := hb.size; refine ⟨⟨h.grown.os.trans hb.os, h.grown.tape.trans hb.tape, h.grown.output.trans hb.output, Nat.le_trans hs h.grown.size, fun k hk hne => (h.grown.block k (by omega) hne).trans (hb.block k (by omega))⟩, ?_⟩
  rcases h.lies with hl | ⟨g, hl, hg⟩
  · exact .inl hl
  · exact .inr ⟨g, hl, by omega⟩
theorem Grew.below (h : Grew w w' v v') {e : TypeId} (ho : w.ownsRow base e k v n xs) (hb : base ≤ w.heap.size) : Below base w w' :=
  (Below.refl _ _).grown h.grown hb fun i hi => (ho.lt i hi).1
theorem Grew.bk (h : Grew w w' v v') {e : TypeId} (ho : w.ownsRow base e k v n xs) (hk : Bk w g t cs) (hne : e ≠ t) : Bk w' g t cs := by
  have hlt := hk.lt; unfold Bk at *; rw [h.grown.block g hlt, hk]; intro hh
  rcases ho.2 with ⟨rfl, _⟩ | ⟨g', cap, cur, rfl, _, hg, _⟩
  · simp [Value.ownBlock] at hh
  · simp only [Value.ownBlock, Option.some.injEq] at hh; subst hh; rw [hk] at hg; injection hg with hg; injection hg with _ ht; exact hne ht.symm
end
structure Keep (S : Nat → Prop) (w w' : World) : Prop where
  os : w'.os = w.os
  tape : w'.tape = w.tape
  output : w'.output = w.output
  size : w.heap.size ≤ w'.heap.size
  block : ∀ i, i < w.heap.size → ¬ S i → w'.heap[i]? = w.heap[i]?
section
variable {S T : Nat → Prop} {w'' : World}
theorem Keep.refl (S : Nat → Prop) (w : World) : Keep S w w := ⟨rfl, rfl, rfl, Nat.le_refl _, fun _ _ _ => rfl⟩
theorem Keep.trans (h : Keep S w w') (h' : Keep T w' w'') (hT : ∀ i, i < w.heap.size → T i → S i) : Keep S w w'' :=
  ⟨h'.os.trans h.os, h'.tape.trans h.tape, h'.output.trans h.output, Nat.le_trans h.size h'.size, fun i hi hn =>
    (h'.block i (Nat.lt_of_lt_of_le hi h.size) fun ht => hn (hT i hi ht)).trans (h.block i hi hn)⟩
theorem Keep.mono (h : Keep S w w') (hS : ∀ i, i < w.heap.size → S i → T i) : Keep T w w' := ⟨h.os, h.tape, h.output, h.size, fun i hi hn => h.block i hi fun hs => hn (hS i hi hs)⟩
theorem Keep.of_below {B : Nat} (hb : Below B w w') (hS : ∀ i, i < w.heap.size → B ≤ i → S i) : Keep S w w' :=
  ⟨hb.os, hb.tape, hb.output, hb.size, fun i hi hn => hb.block i (by
    rcases Nat.lt_or_ge i B with h | h
    · exact h
    · exact absurd (hS i hi h) hn)⟩
theorem Keep.below {B : Nat} (h : Keep S w w') (hB : B ≤ w.heap.size) (hS : ∀ i, i < B → ¬ S i) : Below B w w' :=
  ⟨h.os, h.tape, h.output, h.size, fun i hi => h.block i (by omega) (hS i hi)⟩
theorem Keep.of_grew {v v' : Value} (h : Grew w w' v v') (hS : ∀ i, some i = v.ownBlock → S i) : Keep S w w' :=
  ⟨h.grown.os, h.grown.tape, h.grown.output, h.grown.size, fun i hi hn => h.grown.block i hi fun e => hn (hS i e)⟩
theorem Keep.drew (h : Keep S w w') : Keep S w w'.drew := ⟨h.os, h.tape, h.output, h.size, h.block⟩
theorem Keep.alloc (h : Keep S w w') (o : Obj) : Keep S w (w'.alloc o) :=
  h.trans (T := fun _ => False) (Keep.of_below ((Below.refl w'.heap.size w').alloc (Nat.le_refl _) o) fun i hi hb => by omega) fun _ _ hf => hf.elim
theorem Keep.setCell (h : Keep S w w') {p : Addr} (hp : p.block < w.heap.size → S p.block) (u : Value) : Keep S w (w'.setCell p u) :=
  ⟨h.os, h.tape, h.output, by simpa [World.setCell] using h.size, fun i hi hn => (Below.heap_setCell w' p u i (by
    rintro rfl
    exact hn (hp hi))).trans (h.block i hi hn)⟩
theorem Keep.bk {g : Nat} {t : TypeId} {cs : Array Value} (h : Keep S w w') (hk : Bk w g t cs) (hS : ¬ S g) : Bk w' g t cs := by
  have := hk.lt; unfold Bk at *; rw [h.block g this hS, hk]
theorem Keep.own {base : Nat} {e : TypeId} {v : Value} (h : Keep S w w') (ho : w.ownsRow base e k v n xs) (hS : ∀ i, v.ownBlock = some i → ¬ S i) : w'.ownsRow base e k v n xs := by
  refine ⟨ho.1, ?_⟩
  rcases ho.2 with h2 | ⟨g, cap, cur, rfl, hg, hh, r⟩
  · exact .inl h2
  · exact .inr ⟨g, cap, cur, rfl, hg, by rw [h.block g (Array.getElem?_eq_some_iff.1 hh).1 (hS g rfl)]; exact hh, r⟩
end
theorem own_ne {base g : Nat} {e t : TypeId} {v : Value} {cs : Array Value} (ho : w.ownsRow base e k v n xs) (hk : Bk w g t cs) (hne : e ≠ t) : v.ownBlock ≠ some g := by
  rcases ho.2 with ⟨rfl, _⟩ | ⟨g', cap, cur, rfl, _, hg, _⟩
  · simp [Value.ownBlock]
  · intro hh; simp only [Value.ownBlock, Option.some.injEq] at hh; subst hh; unfold Bk at hk; rw [hk] at hg; injection hg with hg; injection hg with _ ht; exact hne ht.symm
theorem own_own_ne {base base' : Nat} {e t : TypeId} {v v' : Value} {k' n' : Nat} {ys : List Value} (ho : w.ownsRow base e k v n xs) (ho' : w.ownsRow base' t k' v' n' ys) (hne : e ≠ t) : ∀ i, v.ownBlock = some i → v'.ownBlock ≠ some i := by
  intro i hi
  rcases ho.2 with ⟨rfl, _⟩ | ⟨g, cap, cur, rfl, _, hg, _⟩
  · simp [Value.ownBlock] at hi
  · simp only [Value.ownBlock, Option.some.injEq] at hi; subst hi; exact own_ne ho' (show Bk w g e cur from hg) (Ne.symm hne)
structure ElemRow (P : Program) (t e : TypeId) (z : Value) (size bytes : Nat) : Prop where
  under : P.underlying t = some (.slice e)
  info : ∃ i, P.info? e = some i ∧ i.zero = some z ∧ i.size = size ∧ i.bytes = bytes
  zero : z.cells.size = size
  pos : 0 < size
section
variable {P : Program} {base t ty e size bytes m c : Nat} {z v : Value} {news : List Value}
theorem run_app (E : ElemRow P t e z size bytes) (hown : w.ownsRow base e size v n xs) (hr : Rd w B size A m news) (h1 : ∀ u ∈ news, u.oneCell' = true)
    (h63 : n + m ≤ maxLen) (hbytes : (n + m) * bytes ≤ 140737488355328) (hbase : base ≤ w.heap.size) :
    ∃ v' w', (Builtin.append_ #[t, t] ty #[v, .slice A m c]).run P w = .ok v' w' ∧ w'.ownsRow base e size v' (n + m) (xs ++ news) ∧ w.grownBy w' v.ownBlock ∧
      (v'.ownBlock = v.ownBlock ∨ v'.ownBlock = some w.heap.size) := by
  obtain ⟨i, hi, hz, hs, hb⟩ := E.info
  cases A with
  | none =>
    have hm : m = 0 := by
      rcases Nat.eq_zero_or_pos m with h | h
      · exact h
      · obtain ⟨a, ha, _⟩ := hr.at_ h; cases ha
    subst hm; have hn : news = [] := List.eq_nil_of_length_eq_zero (by simpa using hr.len); subst hn; refine ⟨v, w, ?_, by simpa using hown, World.grownBy.refl w _, .inl rfl⟩
    rcases hown.2 with ⟨rfl, rfl⟩ | ⟨g, cap, cur, rfl, _, _, hnc, _⟩
    · simp [Builtin.append_, run_underlying E.under, sizeOf, typeInfo, hi, Builtin.lenOf, Builtin.firstCells]
    · simp [Builtin.append_, run_underlying E.under, sizeOf, typeInfo, hi, Builtin.lenOf, Builtin.firstCells, hnc, storeCells]
  | some a =>
    have hcells : ∀ j u, news[j]? = some u → w.cell? (a.add j) = some u := by
      intro j u hu; have hl : j < news.length := (List.getElem?_eq_some_iff.1 hu).1
      have hm : 0 < m := by
        rcases Nat.eq_zero_or_pos m with h | h
        · subst h; have := hr.len; omega
        · exact h
      obtain ⟨a', ha, _, hc⟩ := hr.at_ hm; injection ha with ha; subst ha; exact hc j u hu
    obtain ⟨v', w', h, h2, h3, _, h5⟩ := run_append_own_at (P := P) w base t ty e i z size bytes E.under hi hz hs hb E.zero E.pos v n xs hown a m c news hr.len hcells h1 h63 hbytes hbase; exact ⟨v', w', h, h2, h3, h5⟩
theorem wp_app {o : Oper} {a : Act} {K : Act → World → Prop} {Q : Exit → Act → World → Prop} (E : ElemRow P t e z size bytes) (s x : Operand)
    (ho : o.op = .call { callee := .builtin .append, args := #[s, x], argTypes := #[t, t] })
    (hs : a.eval s = v) (hx : a.eval x = .slice A m c) (hown : w.ownsRow base e size v n xs) (hr : Rd w B size A m news) (h1 : ∀ u ∈ news, u.oneCell' = true)
    (h63 : n + m ≤ maxLen) (hbytes : (n + m) * bytes ≤ 140737488355328) (hbase : base ≤ w.heap.size)
    (h : ∀ v' w', w'.ownsRow base e size v' (n + m) (xs ++ news) → Grew w w' v v' → Below base w w' → K (a.put o.dst v') w') :
    o.wp P a w K Q := by
  obtain ⟨v', w', hrun, h2, h3, h4⟩ := run_app (ty := o.type) (c := c) E hown hr h1 h63 hbytes hbase; unfold Oper.wp execOp; simp only [ho, resolve, invoke, builtin, Sem.run_bind, Sem.run_pure, Result.andThen_ok, List.map_toArray, List.map_cons, List.map_nil, hs, hx, hrun]; exact h v' w' h2 ⟨h3, h4.imp id fun h => ⟨_, h, Nat.le_refl _⟩⟩ ((Below.refl _ _).grown h3 hbase fun k hk => (hown.lt k hk).1)
theorem wpList_app {ops : Array Oper} {rest : List Oper} {o : Oper} {a : Act} {Q : Exit → Act → World → Prop} (E : ElemRow P t e z size bytes) (hgd : o.guard = none) (s x : Operand)
    (ho : o.op = .call { callee := .builtin .append, args := #[s, x], argTypes := #[t, t] })
    (hs : a.eval s = v) (hx : a.eval x = .slice A m c) (hown : w.ownsRow base e size v n xs) (hr : Rd w B size A m news) (h1 : ∀ u ∈ news, u.oneCell' = true)
    (h63 : n + m ≤ maxLen) (hbytes : (n + m) * bytes ≤ 140737488355328) (hbase : base ≤ w.heap.size)
    (h : ∀ v' w', w'.ownsRow base e size v' (n + m) (xs ++ news) → Grew w w' v v' → Below base w w' → wpList P ops Q rest (a.put o.dst v') w') :
    wpList P ops Q (o :: rest) a w :=
  wpList_plain hgd fun _ hK => wp_app E s x ho hs hx hown hr h1 h63 hbytes hbase fun v' w' h2 h3 h5 => hK _ _ (h v' w' h2 h3 h5)
end
theorem Rd.fresh (w : World) (t : TypeId) (k n : Nat) (cs : List Value) (h : cs.length = n * k) : Rd (w.alloc (.cells cs.toArray t)) (w.heap.size + 1) k (some ⟨w.heap.size, 0, none⟩) n cs := by
  refine ⟨h, fun _ => ⟨_, rfl, Nat.lt_succ_self _, fun j u hu => ?_⟩⟩; have hadd : (⟨w.heap.size, 0, none⟩ : Addr).add j = ⟨w.heap.size, j, none⟩ := by unfold Addr.add; split <;> simp_all
  rw [hadd, cell_of_row _ w.heap.size j cs.toArray t (0, 0) (heap_alloc_new w _)]
  simpa using hu
/-! A scope whose gotos go forward to one label: what is done from the label on is walked at each goto. -/
section
variable {P : Program} {a : Act} {Q : Exit → Act → World → Prop}
theorem wp_scope_fwd {c rest : Code} (l : Nat) (hf : findLabel c l = some rest)
    (h : c.wp P (Exit.jump l (fun a w => rest.wp P (Exit.noGoto Q) a w) Q) a w) : (Code.scope c).wp P Q a w := by
  refine wp_scope_jumps l (fun a w => rest.wp P (Exit.noGoto Q) a w) (fun _ _ => 0) hf h fun a w hJ => wp_mono hJ ?_; intro e a' w' hq
  cases e with
  | goto l' => exact hq.elim
  | normal => exact hq
  | exit i => exact hq
  | ret => exact hq
  | panic ch => exact hq
  | outgrown => exact hq
end
end Go.Proofs.YtlaiocdnddnnaaaGreatDoor
namespace Go.Proofs.YtlaiocdnddnnaaaGreatDoor
open Go.RowKit
section
variable {P : Program} {ops : Array Oper} {Q : Exit → Act → World → Prop} {S : World → Prop} {E : World → World → Prop} {T : Nat → Value → World → Prop}
def Lands (P : Program) (S : World → Prop) (E : World → World → Prop) (R : Value → World → Prop) (w : World) : Result Next → Prop
  | .ok (.value u) w' => R u w' ∧ S w' ∧ E w w'
  | .ok .skip w' => R undef w' ∧ S w' ∧ E w w'
  | .ok (.enter f args) w' => Calls P f args w' fun e w'' => ∃ u, e = .returned u ∧ R u w'' ∧ S w'' ∧ E w w''
  | _ => False
def dstR (T : Nat → Value → World → Prop) (v : Nat) (dst : Option Tmp) (u : Value) (w : World) : Prop := (∀ d, dst = some d → T d u w) ∧ (dst = none → T v undef w)
theorem dstY {T : Nat → Value → World → Prop} {v k : Nat} {u : Value} {w : World} (h : T k u w) : dstR T v (some k) u w := ⟨fun d hd => by injection hd with hd; subst hd; exact h, fun h => by cases h⟩
theorem lands_wp {o : Oper} {a : Act} {w : World} {K : Act → World → Prop} {R : Value → World → Prop} (h : Lands P S E R w ((execOp a.eval o).run P w))
    (hK : ∀ u w', R u w' → S w' → E w w' → K (a.put o.dst u) w') : o.wp P a w K Q := by
  unfold Oper.wp; generalize (execOp a.eval o).run P w = r at h
  cases r with
  | ok n w' =>
    cases n with
    | value u => exact hK u w' h.1 h.2.1 h.2.2
    | skip => exact hK undef w' h.1 h.2.1 h.2.2
    | enter f args =>
      refine Calls.mono h fun e w'' he => ?_; obtain ⟨u, rfl, h1, h2, h3⟩ := he; exact hK u w'' h1 h2 h3
    | _ => exact h.elim
  | halt x w' => exact h.elim
def Ob (P : Program) (ops : Array Oper) (S : World → Prop) (E : World → World → Prop) (T : Nat → Value → World → Prop) (v : Nat) (o : Oper) : Prop :=
  ∀ (a : Act) (w : World), S w → (∀ t ∈ o.looksAt ops, T t (a.tmps.getD t undef) w ∧ a.tmps[t]? = some (a.tmps.getD t undef)) →
    if Region.wanted o (yielded ops a.tmps) = true then Lands P S E (dstR T v o.dst) w ((execOp a.eval o).run P w) else dstR T v o.dst undef w ∧ E w w
def Obs (P : Program) (ops : Array Oper) (S : World → Prop) (E : World → World → Prop) (T : Nat → Value → World → Prop) : Nat → List Oper → Prop
  | _, [] => True
  | v, o :: r => Ob P ops S E T v o ∧ Obs P ops S E T (v + 1) r
theorem Obs.at_ : ∀ {l : List Oper} {v : Nat}, Obs P ops S E T v l → ∀ (i : Nat) (o : Oper), l[i]? = some o → Ob P ops S E T (v + i) o
  | [], _, _, i, _, ho => by simp at ho
  | x :: r, v, h, i, o, ho => by
    cases i with
    | zero => simp at ho; subst ho; exact h.1
    | succ i =>
      have := Obs.at_ h.2 i o (by simpa using ho)
      rwa [show v + 1 + i = v + (i + 1) by omega] at this
def settledB (ops : Array Oper) (n : Nat) : Bool :=
  ops.toList.zipIdx.all fun (o, i) =>
    (o.after.toList.all fun e => !Region.binds .any e || decide (e.on < i)) &&
    (match o.dst with | some d => decide (d < n) | none => true) &&
    ((o.looksAt ops).all fun t => decide (t < n) && ops.toList.zipIdx.all fun (oj, j) => oj.dst != some t || o.after.toList.any fun e => Region.binds .any e && e.on == j)
structure Settled (ops : Array Oper) (n i : Nat) (o : Oper) : Prop where
  early : ∀ e ∈ o.after, Region.binds .any e = true → e.on < i
  dst : ∀ d, o.dst = some d → d < n
  looks : ∀ t ∈ o.looksAt ops, t < n ∧ ∀ j oj, ops[j]? = some oj → oj.dst = some t → ∃ e ∈ o.after, Region.binds .any e = true ∧ e.on = j
theorem settled_of {n : Nat} (h : settledB ops n = true) {i : Nat} {o : Oper} (hi : ops[i]? = some o) : Settled ops n i o := by
  unfold settledB at h; rw [List.all_eq_true] at h; have hm : ∀ {j : Nat} {x : Oper}, ops[j]? = some x → (x, j) ∈ ops.toList.zipIdx := fun hj => List.mk_mem_zipIdx_iff_getElem?.2 (by simpa using hj); have hh := h (o, i) (hm hi); simp only [Bool.and_eq_true, List.all_eq_true, Bool.or_eq_true, Bool.not_eq_true', decide_eq_true_eq, List.any_eq_true, Array.mem_toList_iff, bne_iff_ne, ne_eq, beq_iff_eq] at hh; obtain ⟨⟨h1, h2⟩, h3⟩ := hh; refine ⟨fun e he hb => ?_, fun d hd => ?_, fun t ht => ⟨(h3 t ht).1, fun j oj hj hd => ?_⟩⟩
  · rcases h1 e he with hf | hl
    · rw [hf] at hb; cases hb
    · exact hl
  · rw [hd] at h2; simpa using h2
  · rcases (h3 t ht).2 (oj, j) (hm hj) with hf | ⟨e, he, hb, ho⟩
    · exact absurd hd hf
    · exact ⟨e, he, hb, ho⟩
def left (ops : Array Oper) (listed : Array Bool) : Nat := ((List.range ops.size).filter fun j => !listed.getD j true).length
theorem filter_less {α : Type} {p q : α → Bool} : ∀ {l : List α}, (∀ x ∈ l, q x = true → p x = true) → (l.filter q).length ≤ (l.filter p).length
  | [], _ => by simp
  | x :: l, h => by
    have ih := filter_less (l := l) fun y hy => h y (List.mem_cons_of_mem _ hy)
    by_cases hq : q x = true
    · rw [List.filter_cons_of_pos hq, List.filter_cons_of_pos (h x (List.mem_cons_self ..) hq)]
      simpa using ih
    · rw [List.filter_cons_of_neg hq]
      by_cases hp : p x = true
      · rw [List.filter_cons_of_pos hp]; simp; omega
      · rw [List.filter_cons_of_neg hp]; exact ih
theorem filter_lt {α : Type} {p q : α → Bool} {i : α} : ∀ {l : List α}, (∀ x ∈ l, q x = true → p x = true) → i ∈ l → p i = true → q i = false → (l.filter q).length < (l.filter p).length
  | [], _, h, _, _ => by cases h
  | x :: l, h, hi, hp, hq => by
    have hl := fun y hy => h y (List.mem_cons_of_mem x hy)
    rcases List.mem_cons.1 hi with rfl | hi
    · rw [List.filter_cons_of_pos hp, List.filter_cons_of_neg (by rw [hq]; simp)]; have := filter_less hl; simp; omega
    · have ih := filter_lt hl hi hp hq
      by_cases hqx : q x = true
      · rw [List.filter_cons_of_pos hqx, List.filter_cons_of_pos (h x (List.mem_cons_self ..) hqx)]
        simpa using ih
      · rw [List.filter_cons_of_neg hqx]
        by_cases hpx : p x = true
        · rw [List.filter_cons_of_pos hpx]; simp; omega
        · rw [List.filter_cons_of_neg hpx]; exact ih
theorem getD_set_self {listed : Array Bool} {i : Nat} : (listed.setIfInBounds i true).getD i true = true := by
  simp only [Array.getD_eq_getD_getElem?]
  by_cases h : i < listed.size
  · simp [h]
  · simp [h]
theorem left_less {listed : Array Bool} {i : Nat} (hi : i < ops.size) (hu : listed.getD i true = false) : left ops (listed.setIfInBounds i true) < left ops listed := by
  unfold left; refine filter_lt (i := i) (fun x _ hx => ?_) (List.mem_range.2 hi) (by rw [hu]; rfl) (by rw [getD_set_self]; rfl)
  by_cases hxi : x = i
  · subst hxi; rw [getD_set_self] at hx; cases hx
  · rwa [getD_set_ne true (Ne.symm hxi)] at hx
theorem all_listed {listed : Array Bool} {n : Nat} (hs : settledB ops n = true) (hr : Region.ready .any ops listed = []) : ∀ j, j < ops.size → listed.getD j true = true := by
  intro j
  induction j using Nat.strongRecOn with
  | _ j ih =>
    intro hj
    cases hl : listed.getD j true with
    | true => rfl
    | false =>
      exfalso
      have hm : j ∈ Region.ready .any ops listed := by
        refine mem_ready.2 ⟨hl, ops[j], Array.getElem?_eq_getElem hj, fun e he hb => ?_⟩; have h := (settled_of hs (Array.getElem?_eq_getElem hj)).early e he hb; have h1 := ih e.on h (by omega); simp only [Array.getD_eq_getD_getElem?] at h1 ⊢
        cases hx : listed[e.on]? with
        | some b => rw [hx] at h1; simpa using h1
        | none =>
          -- a place beyond the list: it is listed by default; but j itself is within
          have : listed.size ≤ e.on := Array.getElem?_eq_none_iff.1 hx; simp only [Array.getD_eq_getD_getElem?] at hl; rw [Array.getElem?_eq_none (show listed.size ≤ j by omega)] at hl; simp at hl
      rw [hr] at hm
      cases hm
structure Mid (ops : Array Oper) (T : Nat → Value → World → Prop) (a0 : Act) (listed : Array Bool) (a : Act) (w : World) : Prop where
  defers : a.defers = a0.defers
  size : a.tmps.size = a0.tmps.size
  told : ∀ t, t < a0.tmps.size → (∀ j o, ops[j]? = some o → o.dst = some t → listed.getD j true = true) → T t (a.tmps.getD t undef) w
  done_ : ∀ j o, ops[j]? = some o → o.dst = none → listed.getD j true = true → T (a0.tmps.size + j) undef w
end
/-! The same by a table: what is foretold of each slot that matters. -/
section
variable {P : Program} {ops : Array Oper} {Q : Exit → Act → World → Prop} {S : World → Prop} {E : World → World → Prop} {T : Nat → Value → World → Prop}
def Is (v : Value) : Value → World → Prop := fun u _ => u = v
def tab (l : List (Nat × (Value → World → Prop))) (t : Nat) : Value → World → Prop :=
  match l.find? (fun p => p.1 == t) with
  | some p => p.2
  | none => fun _ _ => True
def Facts (T : Nat → Value → World → Prop) (a : Act) (w : World) : List Tmp → Prop
  | [] => True
  | t :: r => T t (a.tmps.getD t undef) w ∧ Facts T a w r
def ObT (P : Program) (S : World → Prop) (E : World → World → Prop) (T : Nat → Value → World → Prop) (l : List Tmp) (g : Option (Tmp × Bool)) (v : Nat) (o : Oper) : Prop :=
  ∀ (a : Act) (w : World), S w → Facts T a w l →
    match g with
    | none => Lands P S E (dstR T v o.dst) w ((execOp a.eval o).run P w)
    | some (t, want) => ∃ b, a.tmps.getD t undef = .bool b ∧ if b = want then Lands P S E (dstR T v o.dst) w ((execOp a.eval o).run P w) else dstR T v o.dst undef w ∧ E w w
def ObsT (P : Program) (S : World → Prop) (E : World → World → Prop) (T : Nat → Value → World → Prop) : Nat → List Oper → List (List Tmp × Option (Tmp × Bool)) → Prop
  | v, o :: r, (l, g) :: k => ObT P S E T l g v o ∧ ObsT P S E T (v + 1) r k
  | _, _, _ => True
def looksB (ops : Array Oper) : List Oper → List (List Tmp × Option (Tmp × Bool)) → Bool
  | [], [] => true
  | o :: r, (l, g) :: k =>
    (l.all fun t => (o.looksAt ops).contains t) &&
    (match o.guard, g with
     | none, none => true
     | some (j, want), some (t, want') => (ops[j]?).bind (·.dst) == some t && want == want' && l.contains t
     | _, _ => false) && looksB ops r k
  | _, _ => false
theorem facts_of {a : Act} {w : World} : ∀ {l : List Tmp}, (∀ t ∈ l, T t (a.tmps.getD t undef) w) → Facts T a w l
  | [], _ => trivial
  | t :: _, h => ⟨h t (List.mem_cons_self ..), facts_of fun u hu => h u (List.mem_cons_of_mem _ hu)⟩
theorem obs_of {all : Array Oper} : ∀ {l : List Oper} {k : List (List Tmp × Option (Tmp × Bool))} {v : Nat}, looksB all l k = true → ObsT P S E T v l k → Obs P all S E T v l
  | [], _, _, _, _ => trivial
  | _ :: _, [], _, h, _ => by simp [looksB] at h
  | o :: r, (l, g) :: k, v, h, hb => by
    simp only [looksB, Bool.and_eq_true, List.all_eq_true, List.contains_iff_mem] at h; obtain ⟨⟨h1, h2⟩, h3⟩ := h; refine ⟨fun a w hS hL => ?_, obs_of h3 hb.2⟩; have hh := hb.1 a w hS (facts_of fun t ht => (hL t (h1 t ht)).1); unfold Region.wanted
    cases hg : o.guard with
    | none =>
      cases g with
      | none => simpa using hh
      | some x => rw [hg] at h2; simp at h2
    | some jw =>
      obtain ⟨j, want⟩ := jw
      cases g with
      | none => rw [hg] at h2; simp at h2
      | some x =>
        obtain ⟨t, want'⟩ := x; rw [hg] at h2; simp only [Bool.and_eq_true, beq_iff_eq, List.contains_iff_mem] at h2; obtain ⟨⟨hd, rfl⟩, hm⟩ := h2; obtain ⟨b, hv, hb'⟩ := hh
        have hy : yielded all a.tmps j = some b := by
          unfold yielded; rw [hd, Option.bind_some, (hL t (h1 t hm)).2, hv]
        simp only [hy]
        by_cases hbw : b = want
        · subst hbw; rw [if_pos rfl] at hb'
          simpa using hb'
        · rw [if_neg hbw] at hb'; rw [if_neg (by simpa using hbw)]; exact hb'
def Stable (E : World → World → Prop) (f : Value → World → Prop) : Prop := ∀ v w w', E w w' → f v w → f v w'
theorem stable_is (E : World → World → Prop) (v : Value) : Stable E (Is v) := fun _ _ _ _ h => h
def StableAll (E : World → World → Prop) : List (Nat × (Value → World → Prop)) → Prop
  | [] => True
  | p :: r => Stable E p.2 ∧ StableAll E r
theorem stable_mem : ∀ {l : List (Nat × (Value → World → Prop))}, StableAll E l → ∀ p ∈ l, Stable E p.2
  | [], _, _, h => by cases h
  | x :: r, hs, p, h => by
    rcases List.mem_cons.1 h with rfl | h
    · exact hs.1
    · exact stable_mem hs.2 p h
theorem stable_tab {l : List (Nat × (Value → World → Prop))} (hs : StableAll E l) : ∀ t v w w', E w w' → tab l t v w → tab l t v w' := by
  intro t v w w' hE h; unfold tab at h ⊢
  cases hf : l.find? (fun p => p.1 == t) with
  | none => trivial
  | some p =>
    rw [hf] at h; exact stable_mem hs p (List.mem_of_find?_eq_some hf) v w w' hE h
def StartAll (a0 : Act) (w : World) : List (Nat × (Value → World → Prop)) → Prop
  | [] => True
  | p :: r => p.2 (a0.tmps.getD p.1 undef) w ∧ StartAll a0 w r
theorem start_mem {a0 : Act} {w : World} : ∀ {l : List (Nat × (Value → World → Prop))}, StartAll a0 w l → ∀ p ∈ l, p.2 (a0.tmps.getD p.1 undef) w
  | [], _, _, h => by cases h
  | x :: r, hs, p, h => by
    rcases List.mem_cons.1 h with rfl | h
    · exact hs.1
    · exact start_mem hs.2 p h
end
end Go.Proofs.YtlaiocdnddnnaaaGreatDoor
