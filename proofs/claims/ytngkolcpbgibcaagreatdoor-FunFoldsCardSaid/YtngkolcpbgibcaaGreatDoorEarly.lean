/- Words for memory, used by all walks of this seat: a slice that reads as a list of cells, kept while only newer blocks are written. No condition. -/
/- A region that draws its order, one operation at a time: if in every state in which an operation may come up it makes what is foretold of its slot, and breaks nothing that is foretold of the others, then every order does. No program; no condition. -/
/- A region that draws its order and in which some operations stand in a forced order among themselves (an append, then the store of what it made): what holds between them by how many have been done. No condition. -/
/- A region that draws its order, with phases in a forced order, where some operations come ahead of the first phase: these are asked for only as long as no phase has been done. No condition. -/
import Derived.WalkKit
import Derived.WalkSpells
import Derived.WalkLawsBesides
import Derived.Outline
import Derived.Deep.LoopGhost
import Derived.Deep.QuietTactic
import Derived.BigQuiet
import Derived.Lib.Hide
import Derived.Laws.BytesArg
import Derived.Maps.AppendAt
import Derived.Deep.Draws
import Derived.Deep.AppendLies
import Derived.ScopeJumps
import Derived.Deep.DeepCutAuto
import Derived.Deep.RegionLaw
import Derived.WalkMore
import Derived.Orders
set_option linter.unusedVariables false
set_option linter.unusedSimpArgs false
namespace Go.Proofs.YtngkolcpbgibcaaGreatDoor
open Go.RowKit
structure Rd (w : World) (B k : Nat) (A : Option Addr) (n : Nat) (xs : List Value) : Prop where
  len : xs.length = n * k
  at_ : 0 < n → ∃ a, A = some a ∧ a.block < B ∧ ∀ j u, xs[j]? = some u → w.cell? (a.add j) = some u
theorem add_block (a : Addr) (n : Nat) : (a.add n).block = a.block := by unfold Addr.add; split <;> rfl
theorem add_add (a : Addr) (i j : Nat) : (a.add i).add j = a.add (i + j) := by
  unfold Addr.add
  by_cases hi : i = 0 <;> by_cases hj : j = 0 <;> simp [hi, hj, Nat.add_assoc]
variable {w w' : World} {B B' k n : Nat} {A : Option Addr} {xs : List Value}
theorem Rd.nil (w : World) (B k : Nat) (A : Option Addr) : Rd w B k A 0 [] := ⟨by simp, fun h => absurd h (by omega)⟩
theorem Rd.keep (h : Rd w B k A n xs) (hk : ∀ p : Addr, p.block < B → w'.cell? p = w.cell? p) : Rd w' B k A n xs := by
  refine ⟨h.len, fun hn => ?_⟩; obtain ⟨a, e, hb, hc⟩ := h.at_ hn; exact ⟨a, e, hb, fun j u hu => by rw [hk _ (by rw [add_block]; exact hb)]; exact hc j u hu⟩
theorem Rd.below (h : Rd w B k A n xs) (hb : Below B w w') : Rd w' B k A n xs := h.keep fun _ hp => hb.cell hp
theorem Rd.mono (h : Rd w B k A n xs) (hB : B ≤ B') : Rd w B' k A n xs := by
  refine ⟨h.len, fun hn => ?_⟩; obtain ⟨a, e, hb, hc⟩ := h.at_ hn; exact ⟨a, e, by omega, hc⟩
theorem Rd.cell (h : Rd w B 1 A n xs) {i : Nat} (hi : i < n) : ∃ a u, A = some a ∧ a.block < B ∧ xs[i]? = some u ∧ w.cell? (a.add i) = some u := by
  obtain ⟨a, e, hb, hc⟩ := h.at_ (by omega); have hl : i < xs.length := by have := h.len; omega
  exact ⟨a, xs[i], e, hb, List.getElem?_eq_getElem hl, hc i _ (List.getElem?_eq_getElem hl)⟩
theorem own_form {base : Nat} {e : TypeId} {v : Value} (h : w.ownsRow base e k v n xs) :
    ∃ A c, v = .slice A n c ∧ n ≤ c ∧ c ≤ maxLen ∧ Rd w w.heap.size k A n xs := by
  rcases h.2 with ⟨rfl, rfl⟩ | ⟨g, cap, cur, rfl, hb, hg, hnc, hm, hs, ht⟩
  · have : xs = [] := List.eq_nil_of_length_eq_zero (by simpa using h.1); subst this; exact ⟨none, 0, rfl, Nat.le_refl _, by simp [maxLen], Rd.nil _ _ _ _⟩
  · exact ⟨_, cap, rfl, hnc, hm, h.1, fun hn => ⟨_, rfl, (Array.getElem?_eq_some_iff.1 hg).1, h.cells (g := g) rfl⟩⟩
def Bk (w : World) (g : Nat) (t : TypeId) (cs : Array Value) : Prop := w.heap[g]? = some (.cells cs t (0, 0))
section
variable {g : Nat} {t t' : TypeId} {cs : Array Value} {v v' v'' : Value} {base : Nat} {w'' : World}
theorem Bk.lt (h : Bk w g t cs) : g < w.heap.size := by
  unfold Bk at h; exact (Array.getElem?_eq_some_iff.1 h).1
theorem Bk.cell (h : Bk w g t cs) (i : Nat) : w.cell? ⟨g, i, none⟩ = cs[i]? := cell_of_row w g i cs t (0, 0) h
theorem Bk.frozen (h : Bk w g t cs) (i : Nat) : w.frozen? ⟨g, i, none⟩ = false := by
  unfold Bk at h; simp [World.frozen?, h]
theorem Bk.below (h : Bk w g t cs) (hb : Below B w w') (hg : g < B) : Bk w' g t cs := by
  unfold Bk at *; rw [hb.block g hg, h]
theorem Bk.new (w : World) (t : TypeId) (cs : Array Value) : Bk (w.alloc (.cells cs t)) w.heap.size t cs := heap_alloc_new w _
theorem Bk.alloc (h : Bk w g t cs) (o : Obj) : Bk (w.alloc o) g t cs := by
  have := h.lt; unfold Bk at *; rw [Below.heap_alloc w o g this, h]
theorem Bk.set_ (h : Bk w g t cs) (i : Nat) (u : Value) : Bk (w.setCell ⟨g, i, none⟩ u) g t (cs.setIfInBounds i u) := by
  unfold Bk at h ⊢; simp [World.setCell, Array.getElem?_modify, h]
structure Grew (w w' : World) (v v' : Value) : Prop where
  grown : w.grownBy w' v.ownBlock
  lies : v'.ownBlock = v.ownBlock ∨ ∃ g, v'.ownBlock = some g ∧ w.heap.size ≤ g
theorem Grew.refl (w : World) (v : Value) : Grew w w v v := ⟨World.grownBy.refl w _, .inl rfl⟩
theorem Grew.trans (h : Grew w w' v v') (h' : Grew w' w'' v' v'') : Grew w w'' v v'' := by
  have hs := h.grown.size; refine ⟨⟨h'.grown.os.trans h.grown.os, h'.grown.tape.trans h.grown.tape, h'.grown.output.trans h.grown.output, Nat.le_trans hs h'.grown.size, fun k hk hne => ?_⟩, ?_⟩
  · refine (h'.grown.block k (by omega) fun e => ?_).trans (h.grown.block k hk hne)
    rcases h.lies with hl | ⟨g, hl, hg⟩
    · exact hne (e.trans hl)
    · rw [hl] at e; injection e with e; omega
  · rcases h'.lies with hl | ⟨g, hl, hg⟩
    · rcases h.lies with hm | ⟨g, hm, hg⟩
      · exact .inl (hl.trans hm)
      · exact .inr ⟨g, hl.trans hm, hg⟩
    · exact .inr ⟨g, hl, by omega⟩
theorem Grew.after {B : Nat} (hb : Below B w w') (hB : w.heap.size ≤ B) (h : Grew w' w'' v v') : Grew w w'' v v' := by
  have hs := hb.size; refine ⟨⟨h.grown.os.trans hb.os, h.grown.tape.trans hb.tape, h.grown.output.trans hb.output, Nat.le_trans hs h.grown.size, fun k hk hne => (h.grown.block k (by omega) hne).trans (hb.block k (by omega))⟩, ?_⟩
  rcases h.lies with hl | ⟨g, hl, hg⟩
  · exact .inl hl
  · exact .inr ⟨g, hl, by omega⟩
theorem Grew.below (h : Grew w w' v v') {e : TypeId} (ho : w.ownsRow base e k v n xs) (hb : base ≤ w.heap.size) : Below base w w' :=
  (Below.refl _ _).grown h.grown hb fun i hi => (ho.lt i hi).1
theorem Grew.bk (h : Grew w w' v v') {e : TypeId} (ho : w.ownsRow base e k v n xs) (hk : Bk w g t cs) (hne : e ≠ t) : Bk w' g t cs := by
  have hlt := hk.lt; unfold Bk at *; rw [h.grown.block g hlt, hk]; intro hh
  rcases ho.2 with ⟨rfl, _⟩ | ⟨g', cap, cur, rfl, _, hg, _⟩
  · simp [Value.ownBlock] at hh
  · simp only [Value.ownBlock, Option.some.injEq] at hh; subst hh; rw [hk] at hg; injection hg with hg; injection hg with _ ht; exact hne ht.symm
end
structure Keep (S : Nat → Prop) (w w' : World) : Prop where
  os : w'.os = w.os
  tape : w'.tape = w.tape
  output : w'.output = w.output
  size : w.heap.size ≤ w'.heap.size
  block : ∀ i, i < w.heap.size → ¬ S i → w'.heap[i]? = w.heap[i]?
section
variable {S T : Nat → Prop} {w'' : World}
theorem Keep.refl (S : Nat → Prop) (w : World) : Keep S w w := ⟨rfl, rfl, rfl, Nat.le_refl _, fun _ _ _ => rfl⟩
theorem Keep.trans (h : Keep S w w') (h' : Keep T w' w'') (hT : ∀ i, i < w.heap.size → T i → S i) : Keep S w w'' :=
  ⟨h'.os.trans h.os, h'.tape.trans h.tape, h'.output.trans h.output, Nat.le_trans h.size h'.size, fun i hi hn =>
    (h'.block i (Nat.lt_of_lt_of_le hi h.size) fun ht => hn (hT i hi ht)).trans (h.block i hi hn)⟩
theorem Keep.mono (h : Keep S w w') (hS : ∀ i, i < w.heap.size → S i → T i) : Keep T w w' := ⟨h.os, h.tape, h.output, h.size, fun i hi hn => h.block i hi fun hs => hn (hS i hi hs)⟩
theorem Keep.of_below {B : Nat} (hb : Below B w w') (hS : ∀ i, i < w.heap.size → B ≤ i → S i) : Keep S w w' :=
  ⟨hb.os, hb.tape, hb.output, hb.size, fun i hi hn => hb.block i (by
    rcases Nat.lt_or_ge i B with h | h
    · exact h
    · exact absurd (hS i hi h) hn)⟩
theorem Keep.below {B : Nat} (h : Keep S w w') (hB : B ≤ w.heap.size) (hS : ∀ i, i < B → ¬ S i) : Below B w w' :=
  ⟨h.os, h.tape, h.output, h.size, fun i hi => h.block i (by omega) (hS i hi)⟩
theorem Keep.of_grew {v v' : Value} (h : Grew w w' v v') (hS : ∀ i, some i = v.ownBlock → S i) : Keep S w w' :=
  ⟨h.grown.os, h.grown.tape, h.grown.output, h.grown.size, fun i hi hn => h.grown.block i hi fun e => hn (hS i e)⟩
theorem Keep.drew (h : Keep S w w') : Keep S w w'.drew := ⟨h.os, h.tape, h.output, h.size, h.block⟩
theorem Keep.alloc (h : Keep S w w') (o : Obj) : Keep S w (w'.alloc o) :=
  h.trans (T := fun _ => False) (Keep.of_below ((Below.refl w'.heap.size w').alloc (Nat.le_refl _) o) fun i hi hb => by omega) fun _ _ hf => hf.elim
theorem Keep.setCell (h : Keep S w w') {p : Addr} (hp : p.block < w.heap.size → S p.block) (u : Value) : Keep S w (w'.setCell p u) :=
  ⟨h.os, h.tape, h.output, by simpa [World.setCell] using h.size, fun i hi hn => (Below.heap_setCell w' p u i (by
    rintro rfl
    exact hn (hp hi))).trans (h.block i hi hn)⟩
theorem Keep.bk {g : Nat} {t : TypeId} {cs : Array Value} (h : Keep S w w') (hk : Bk w g t cs) (hS : ¬ S g) : Bk w' g t cs := by
  have := hk.lt; unfold Bk at *; rw [h.block g this hS, hk]
theorem Keep.own {base : Nat} {e : TypeId} {v : Value} (h : Keep S w w') (ho : w.ownsRow base e k v n xs) (hS : ∀ i, v.ownBlock = some i → ¬ S i) : w'.ownsRow base e k v n xs := by
  refine ⟨ho.1, ?_⟩
  rcases ho.2 with h2 | ⟨g, cap, cur, rfl, hg, hh, r⟩
  · exact .inl h2
  · exact .inr ⟨g, cap, cur, rfl, hg, by rw [h.block g (Array.getElem?_eq_some_iff.1 hh).1 (hS g rfl)]; exact hh, r⟩
end
theorem own_ne {base g : Nat} {e t : TypeId} {v : Value} {cs : Array Value} (ho : w.ownsRow base e k v n xs) (hk : Bk w g t cs) (hne : e ≠ t) : v.ownBlock ≠ some g := by
  rcases ho.2 with ⟨rfl, _⟩ | ⟨g', cap, cur, rfl, _, hg, _⟩
  · simp [Value.ownBlock]
  · intro hh; simp only [Value.ownBlock, Option.some.injEq] at hh; subst hh; unfold Bk at hk; rw [hk] at hg; injection hg with hg; injection hg with _ ht; exact hne ht.symm
structure ElemRow (P : Program) (t e : TypeId) (z : Value) (size bytes : Nat) : Prop where
  under : P.underlying t = some (.slice e)
  info : ∃ i, P.info? e = some i ∧ i.zero = some z ∧ i.size = size ∧ i.bytes = bytes
  zero : z.cells.size = size
  pos : 0 < size
section
variable {P : Program} {base t ty e size bytes m c : Nat} {z v : Value} {news : List Value}
theorem run_app (E : ElemRow P t e z size bytes) (hown : w.ownsRow base e size v n xs) (hr : Rd w B size A m news) (h1 : ∀ u ∈ news, u.oneCell' = true)
    (h63 : n + m ≤ maxLen) (hbytes : (n + m) * bytes ≤ 140737488355328) (hbase : base ≤ w.heap.size) :
    ∃ v' w', (Builtin.append_ #[t, t] ty #[v, .slice A m c]).run P w = .ok v' w' ∧ w'.ownsRow base e size v' (n + m) (xs ++ news) ∧ w.grownBy w' v.ownBlock ∧
      (v'.ownBlock = v.ownBlock ∨ v'.ownBlock = some w.heap.size) := by
  obtain ⟨i, hi, hz, hs, hb⟩ := E.info
  cases A with
  | none =>
    have hm : m = 0 := by
      rcases Nat.eq_zero_or_pos m with h | h
      · exact h
      · obtain ⟨a, ha, _⟩ := hr.at_ h; cases ha
    subst hm; have hn : news = [] := List.eq_nil_of_length_eq_zero (by simpa using hr.len); subst hn; refine ⟨v, w, ?_, by simpa using hown, World.grownBy.refl w _, .inl rfl⟩
    rcases hown.2 with ⟨rfl, rfl⟩ | ⟨g, cap, cur, rfl, _, _, hnc, _⟩
    · simp [Builtin.append_, run_underlying E.under, sizeOf, typeInfo, hi, Builtin.lenOf, Builtin.firstCells]
    · simp [Builtin.append_, run_underlying E.under, sizeOf, typeInfo, hi, Builtin.lenOf, Builtin.firstCells, hnc, storeCells]
  | some a =>
    have hcells : ∀ j u, news[j]? = some u → w.cell? (a.add j) = some u := by
      intro j u hu; have hl : j < news.length := (List.getElem?_eq_some_iff.1 hu).1
      have hm : 0 < m := by
        rcases Nat.eq_zero_or_pos m with h | h
        · subst h; have := hr.len; omega
        · exact h
      obtain ⟨a', ha, _, hc⟩ := hr.at_ hm; injection ha with ha; subst ha; exact hc j u hu
    obtain ⟨v', w', h, h2, h3, _, h5⟩ := run_append_own_at (P := P) w base t ty e i z size bytes E.under hi hz hs hb E.zero E.pos v n xs hown a m c news hr.len hcells h1 h63 hbytes hbase; exact ⟨v', w', h, h2, h3, h5⟩
theorem wp_app {o : Oper} {a : Act} {K : Act → World → Prop} {Q : Exit → Act → World → Prop} (E : ElemRow P t e z size bytes) (s x : Operand)
    (ho : o.op = .call { callee := .builtin .append, args := #[s, x], argTypes := #[t, t] })
    (hs : a.eval s = v) (hx : a.eval x = .slice A m c) (hown : w.ownsRow base e size v n xs) (hr : Rd w B size A m news) (h1 : ∀ u ∈ news, u.oneCell' = true)
    (h63 : n + m ≤ maxLen) (hbytes : (n + m) * bytes ≤ 140737488355328) (hbase : base ≤ w.heap.size)
    (h : ∀ v' w', w'.ownsRow base e size v' (n + m) (xs ++ news) → Grew w w' v v' → Below base w w' → K (a.put o.dst v') w') :
    o.wp P a w K Q := by
  obtain ⟨v', w', hrun, h2, h3, h4⟩ := run_app (ty := o.type) (c := c) E hown hr h1 h63 hbytes hbase; unfold Oper.wp execOp; simp only [ho, resolve, invoke, builtin, Sem.run_bind, Sem.run_pure, Result.andThen_ok, List.map_toArray, List.map_cons, List.map_nil, hs, hx, hrun]; exact h v' w' h2 ⟨h3, h4.imp id fun h => ⟨_, h, Nat.le_refl _⟩⟩ ((Below.refl _ _).grown h3 hbase fun k hk => (hown.lt k hk).1)
end
section
variable {P : Program} {a : Act} {Q : Exit → Act → World → Prop}
end
end Go.Proofs.YtngkolcpbgibcaaGreatDoor
namespace Go.Proofs.YtngkolcpbgibcaaGreatDoor
open Go.RowKit
section
variable {P : Program} {ops : Array Oper} {Q : Exit → Act → World → Prop} {S : World → Prop} {E : World → World → Prop} {T : Nat → Value → World → Prop}
def Lands (P : Program) (S : World → Prop) (E : World → World → Prop) (R : Value → World → Prop) (w : World) : Result Next → Prop
  | .ok (.value u) w' => R u w' ∧ S w' ∧ E w w'
  | .ok .skip w' => R undef w' ∧ S w' ∧ E w w'
  | .ok (.enter f args) w' => Calls P f args w' fun e w'' => ∃ u, e = .returned u ∧ R u w'' ∧ S w'' ∧ E w w''
  | _ => False
def dstR (T : Nat → Value → World → Prop) (v : Nat) (dst : Option Tmp) (u : Value) (w : World) : Prop := (∀ d, dst = some d → T d u w) ∧ (dst = none → T v undef w)
theorem dstY {T : Nat → Value → World → Prop} {v k : Nat} {u : Value} {w : World} (h : T k u w) : dstR T v (some k) u w := ⟨fun d hd => by injection hd with hd; subst hd; exact h, fun h => by cases h⟩
theorem lands_wp {o : Oper} {a : Act} {w : World} {K : Act → World → Prop} {R : Value → World → Prop} (h : Lands P S E R w ((execOp a.eval o).run P w))
    (hK : ∀ u w', R u w' → S w' → E w w' → K (a.put o.dst u) w') : o.wp P a w K Q := by
  unfold Oper.wp; generalize (execOp a.eval o).run P w = r at h
  cases r with
  | ok n w' =>
    cases n with
    | value u => exact hK u w' h.1 h.2.1 h.2.2
    | skip => exact hK undef w' h.1 h.2.1 h.2.2
    | enter f args =>
      refine Calls.mono h fun e w'' he => ?_; obtain ⟨u, rfl, h1, h2, h3⟩ := he; exact hK u w'' h1 h2 h3
    | _ => exact h.elim
  | halt x w' => exact h.elim
def Ob (P : Program) (ops : Array Oper) (S : World → Prop) (E : World → World → Prop) (T : Nat → Value → World → Prop) (v : Nat) (o : Oper) : Prop :=
  ∀ (a : Act) (w : World), S w → (∀ t ∈ o.looksAt ops, T t (a.tmps.getD t undef) w ∧ a.tmps[t]? = some (a.tmps.getD t undef)) →
    if Region.wanted o (yielded ops a.tmps) = true then Lands P S E (dstR T v o.dst) w ((execOp a.eval o).run P w) else dstR T v o.dst undef w ∧ E w w
def Obs (P : Program) (ops : Array Oper) (S : World → Prop) (E : World → World → Prop) (T : Nat → Value → World → Prop) : Nat → List Oper → Prop
  | _, [] => True
  | v, o :: r => Ob P ops S E T v o ∧ Obs P ops S E T (v + 1) r
theorem Obs.at_ : ∀ {l : List Oper} {v : Nat}, Obs P ops S E T v l → ∀ (i : Nat) (o : Oper), l[i]? = some o → Ob P ops S E T (v + i) o
  | [], _, _, i, _, ho => by simp at ho
  | x :: r, v, h, i, o, ho => by
    cases i with
    | zero => simp at ho; subst ho; exact h.1
    | succ i =>
      have := Obs.at_ h.2 i o (by simpa using ho)
      rwa [show v + 1 + i = v + (i + 1) by omega] at this
def settledB (ops : Array Oper) (n : Nat) : Bool :=
  ops.toList.zipIdx.all fun (o, i) =>
    (o.after.toList.all fun e => !Region.binds .any e || decide (e.on < i)) &&
    (match o.dst with | some d => decide (d < n) | none => true) &&
    ((o.looksAt ops).all fun t => decide (t < n) && ops.toList.zipIdx.all fun (oj, j) => oj.dst != some t || o.after.toList.any fun e => Region.binds .any e && e.on == j)
structure Settled (ops : Array Oper) (n i : Nat) (o : Oper) : Prop where
  early : ∀ e ∈ o.after, Region.binds .any e = true → e.on < i
  dst : ∀ d, o.dst = some d → d < n
  looks : ∀ t ∈ o.looksAt ops, t < n ∧ ∀ j oj, ops[j]? = some oj → oj.dst = some t → ∃ e ∈ o.after, Region.binds .any e = true ∧ e.on = j
theorem settled_of {n : Nat} (h : settledB ops n = true) {i : Nat} {o : Oper} (hi : ops[i]? = some o) : Settled ops n i o := by
  unfold settledB at h; rw [List.all_eq_true] at h; have hm : ∀ {j : Nat} {x : Oper}, ops[j]? = some x → (x, j) ∈ ops.toList.zipIdx := fun hj => List.mk_mem_zipIdx_iff_getElem?.2 (by simpa using hj); have hh := h (o, i) (hm hi); simp only [Bool.and_eq_true, List.all_eq_true, Bool.or_eq_true, Bool.not_eq_true', decide_eq_true_eq, List.any_eq_true, Array.mem_toList_iff, bne_iff_ne, ne_eq, beq_iff_eq] at hh; obtain ⟨⟨h1, h2⟩, h3⟩ := hh; refine ⟨fun e he hb => ?_, fun d hd => ?_, fun t ht => ⟨(h3 t ht).1, fun j oj hj hd => ?_⟩⟩
  · rcases h1 e he with hf | hl
    · rw [hf] at hb; cases hb
    · exact hl
  · rw [hd] at h2; simpa using h2
  · rcases (h3 t ht).2 (oj, j) (hm hj) with hf | ⟨e, he, hb, ho⟩
    · exact absurd hd hf
    · exact ⟨e, he, hb, ho⟩
def left (ops : Array Oper) (listed : Array Bool) : Nat := ((List.range ops.size).filter fun j => !listed.getD j true).length
theorem filter_less {α : Type} {p q : α → Bool} : ∀ {l : List α}, (∀ x ∈ l, q x = true → p x = true) → (l.filter q).length ≤ (l.filter p).length
  | [], _ => by simp
  | x :: l, h => by
    have ih := filter_less (l := l) fun y hy => h y (List.mem_cons_of_mem _ hy)
    by_cases hq : q x = true
    · rw [List.filter_cons_of_pos hq, List.filter_cons_of_pos (h x (List.mem_cons_self ..) hq)]
      simpa using ih
    · rw [List.filter_cons_of_neg hq]
      by_cases hp : p x = true
      · rw [List.filter_cons_of_pos hp]; simp; omega
      · rw [List.filter_cons_of_neg hp]; exact ih
theorem filter_lt {α : Type} {p q : α → Bool} {i : α} : ∀ {l : List α}, (∀ x ∈ l, q x = true → p x = true) → i ∈ l → p i = true → q i = false → (l.filter q).length < (l.filter p).length
  | [], _, h, _, _ => by cases h
  | x :: l, h, hi, hp, hq => by
    have hl := fun y hy => h y (List.mem_cons_of_mem x hy)
    rcases List.mem_cons.1 hi with rfl | hi
    · rw [List.filter_cons_of_pos hp, List.filter_cons_of_neg (by rw [hq]; simp)]; have := filter_less hl; simp; omega
    · have ih := filter_lt hl hi hp hq
      by_cases hqx : q x = true
      · rw [List.filter_cons_of_pos hqx, List.filter_cons_of_pos (h x (List.mem_cons_self ..) hqx)]
        simpa using ih
      · rw [List.filter_cons_of_neg hqx]
        by_cases hpx : p x = true
        · rw [List.filter_cons_of_pos hpx]; simp; omega
        · rw [List.filter_cons_of_neg hpx]; exact ih
theorem getD_set_self {listed : Array Bool} {i : Nat} : (listed.setIfInBounds i true).getD i true = true := by
  simp only [Array.getD_eq_getD_getElem?]
  by_cases h : i < listed.size
  · simp [h]
  · simp [h]
theorem left_less {listed : Array Bool} {i : Nat} (hi : i < ops.size) (hu : listed.getD i true = false) : left ops (listed.setIfInBounds i true) < left ops listed := by
  unfold left; refine filter_lt (i := i) (fun x _ hx => ?_) (List.mem_range.2 hi) (by rw [hu]; rfl) (by rw [getD_set_self]; rfl)
  by_cases hxi : x = i
  · subst hxi; rw [getD_set_self] at hx; cases hx
  · rwa [getD_set_ne true (Ne.symm hxi)] at hx
theorem all_listed {listed : Array Bool} {n : Nat} (hs : settledB ops n = true) (hr : Region.ready .any ops listed = []) : ∀ j, j < ops.size → listed.getD j true = true := by
  intro j
  induction j using Nat.strongRecOn with
  | _ j ih =>
    intro hj
    cases hl : listed.getD j true with
    | true => rfl
    | false =>
      exfalso
      have hm : j ∈ Region.ready .any ops listed := by
        refine mem_ready.2 ⟨hl, ops[j], Array.getElem?_eq_getElem hj, fun e he hb => ?_⟩; have h := (settled_of hs (Array.getElem?_eq_getElem hj)).early e he hb; have h1 := ih e.on h (by omega); simp only [Array.getD_eq_getD_getElem?] at h1 ⊢
        cases hx : listed[e.on]? with
        | some b => rw [hx] at h1; simpa using h1
        | none =>
          -- a place beyond the list: it is listed by default; but j itself is within
          have : listed.size ≤ e.on := Array.getElem?_eq_none_iff.1 hx; simp only [Array.getD_eq_getD_getElem?] at hl; rw [Array.getElem?_eq_none (show listed.size ≤ j by omega)] at hl; simp at hl
      rw [hr] at hm
      cases hm
structure Mid (ops : Array Oper) (T : Nat → Value → World → Prop) (a0 : Act) (listed : Array Bool) (a : Act) (w : World) : Prop where
  defers : a.defers = a0.defers
  size : a.tmps.size = a0.tmps.size
  told : ∀ t, t < a0.tmps.size → (∀ j o, ops[j]? = some o → o.dst = some t → listed.getD j true = true) → T t (a.tmps.getD t undef) w
  done_ : ∀ j o, ops[j]? = some o → o.dst = none → listed.getD j true = true → T (a0.tmps.size + j) undef w
end
/-! The same by a table: what is foretold of each slot that matters. -/
section
variable {P : Program} {ops : Array Oper} {Q : Exit → Act → World → Prop} {S : World → Prop} {E : World → World → Prop} {T : Nat → Value → World → Prop}
def Is (v : Value) : Value → World → Prop := fun u _ => u = v
def tab (l : List (Nat × (Value → World → Prop))) (t : Nat) : Value → World → Prop :=
  match l.find? (fun p => p.1 == t) with
  | some p => p.2
  | none => fun _ _ => True
def Facts (T : Nat → Value → World → Prop) (a : Act) (w : World) : List Tmp → Prop
  | [] => True
  | t :: r => T t (a.tmps.getD t undef) w ∧ Facts T a w r
def ObT (P : Program) (S : World → Prop) (E : World → World → Prop) (T : Nat → Value → World → Prop) (l : List Tmp) (g : Option (Tmp × Bool)) (v : Nat) (o : Oper) : Prop :=
  ∀ (a : Act) (w : World), S w → Facts T a w l →
    match g with
    | none => Lands P S E (dstR T v o.dst) w ((execOp a.eval o).run P w)
    | some (t, want) => ∃ b, a.tmps.getD t undef = .bool b ∧ if b = want then Lands P S E (dstR T v o.dst) w ((execOp a.eval o).run P w) else dstR T v o.dst undef w ∧ E w w
def ObsT (P : Program) (S : World → Prop) (E : World → World → Prop) (T : Nat → Value → World → Prop) : Nat → List Oper → List (List Tmp × Option (Tmp × Bool)) → Prop
  | v, o :: r, (l, g) :: k => ObT P S E T l g v o ∧ ObsT P S E T (v + 1) r k
  | _, _, _ => True
def looksB (ops : Array Oper) : List Oper → List (List Tmp × Option (Tmp × Bool)) → Bool
  | [], [] => true
  | o :: r, (l, g) :: k =>
    (l.all fun t => (o.looksAt ops).contains t) &&
    (match o.guard, g with
     | none, none => true
     | some (j, want), some (t, want') => (ops[j]?).bind (·.dst) == some t && want == want' && l.contains t
     | _, _ => false) && looksB ops r k
  | _, _ => false
theorem facts_of {a : Act} {w : World} : ∀ {l : List Tmp}, (∀ t ∈ l, T t (a.tmps.getD t undef) w) → Facts T a w l
  | [], _ => trivial
  | t :: _, h => ⟨h t (List.mem_cons_self ..), facts_of fun u hu => h u (List.mem_cons_of_mem _ hu)⟩
theorem obs_of {all : Array Oper} : ∀ {l : List Oper} {k : List (List Tmp × Option (Tmp × Bool))} {v : Nat}, looksB all l k = true → ObsT P S E T v l k → Obs P all S E T v l
  | [], _, _, _, _ => trivial
  | _ :: _, [], _, h, _ => by simp [looksB] at h
  | o :: r, (l, g) :: k, v, h, hb => by
    simp only [looksB, Bool.and_eq_true, List.all_eq_true, List.contains_iff_mem] at h; obtain ⟨⟨h1, h2⟩, h3⟩ := h; refine ⟨fun a w hS hL => ?_, obs_of h3 hb.2⟩; have hh := hb.1 a w hS (facts_of fun t ht => (hL t (h1 t ht)).1); unfold Region.wanted
    cases hg : o.guard with
    | none =>
      cases g with
      | none => simpa using hh
      | some x => rw [hg] at h2; simp at h2
    | some jw =>
      obtain ⟨j, want⟩ := jw
      cases g with
      | none => rw [hg] at h2; simp at h2
      | some x =>
        obtain ⟨t, want'⟩ := x; rw [hg] at h2; simp only [Bool.and_eq_true, beq_iff_eq, List.contains_iff_mem] at h2; obtain ⟨⟨hd, rfl⟩, hm⟩ := h2; obtain ⟨b, hv, hb'⟩ := hh
        have hy : yielded all a.tmps j = some b := by
          unfold yielded; rw [hd, Option.bind_some, (hL t (h1 t hm)).2, hv]
        simp only [hy]
        by_cases hbw : b = want
        · subst hbw; rw [if_pos rfl] at hb'
          simpa using hb'
        · rw [if_neg hbw] at hb'; rw [if_neg (by simpa using hbw)]; exact hb'
def Stable (E : World → World → Prop) (f : Value → World → Prop) : Prop := ∀ v w w', E w w' → f v w → f v w'
theorem stable_is (E : World → World → Prop) (v : Value) : Stable E (Is v) := fun _ _ _ _ h => h
def StableAll (E : World → World → Prop) : List (Nat × (Value → World → Prop)) → Prop
  | [] => True
  | p :: r => Stable E p.2 ∧ StableAll E r
theorem stable_mem : ∀ {l : List (Nat × (Value → World → Prop))}, StableAll E l → ∀ p ∈ l, Stable E p.2
  | [], _, _, h => by cases h
  | x :: r, hs, p, h => by
    rcases List.mem_cons.1 h with rfl | h
    · exact hs.1
    · exact stable_mem hs.2 p h
theorem stable_tab {l : List (Nat × (Value → World → Prop))} (hs : StableAll E l) : ∀ t v w w', E w w' → tab l t v w → tab l t v w' := by
  intro t v w w' hE h; unfold tab at h ⊢
  cases hf : l.find? (fun p => p.1 == t) with
  | none => trivial
  | some p =>
    rw [hf] at h; exact stable_mem hs p (List.mem_of_find?_eq_some hf) v w w' hE h
def StartAll (a0 : Act) (w : World) : List (Nat × (Value → World → Prop)) → Prop
  | [] => True
  | p :: r => p.2 (a0.tmps.getD p.1 undef) w ∧ StartAll a0 w r
theorem start_mem {a0 : Act} {w : World} : ∀ {l : List (Nat × (Value → World → Prop))}, StartAll a0 w l → ∀ p ∈ l, p.2 (a0.tmps.getD p.1 undef) w
  | [], _, _, h => by cases h
  | x :: r, hs, p, h => by
    rcases List.mem_cons.1 h with rfl | h
    · exact hs.1
    · exact start_mem hs.2 p h
end
end Go.Proofs.YtngkolcpbgibcaaGreatDoor
namespace Go.Proofs.YtngkolcpbgibcaaGreatDoor
open Go.RowKit
section
variable {P : Program} {ops : Array Oper} {ph : List Nat} {Q : Exit → Act → World → Prop} {S : List Value → World → Prop} {E : World → World → Prop} {T : Nat → Value → World → Prop}
def PFacts (ops : Array Oper) (ph : List Nat) (vals : List Value) (a : Act) : Prop := ∀ k i o t, ph[k]? = some i → k < vals.length → ops[i]? = some o → o.dst = some t → vals[k]? = some (a.tmps.getD t undef)
def PhOb (P : Program) (ops : Array Oper) (ph : List Nat) (S : List Value → World → Prop) (E : World → World → Prop) (T : Nat → Value → World → Prop) (k : Nat) (o : Oper) : Prop :=
  ∀ (a : Act) (w : World) (vals : List Value), vals.length = k → S vals w → (∀ t ∈ o.looksAt ops, T t (a.tmps.getD t undef) w) → PFacts ops ph vals a →
    Lands P (fun _ => True) E (fun u w' => S (vals ++ [u]) w') w ((execOp a.eval o).run P w)
def phasesB (ops : Array Oper) (ph : List Nat) : Bool :=
  ph.zipIdx.all fun (i, k) =>
    (match ops[i]? with
     | none => false
     | some o => o.guard.isNone && (match o.dst with
        | none => true
        | some t => ops.toList.zipIdx.all fun (oj, j) => j == i || oj.dst != some t) &&
       (k == 0 || match ph[k - 1]? with
        | none => false
        | some i' => o.after.toList.any fun e => Region.binds .any e && e.on == i')) &&
    ph.zipIdx.all fun (i', k') => k' == k || i' != i
structure Phased (ops : Array Oper) (ph : List Nat) (k i : Nat) (o : Oper) : Prop where
  guard : o.guard = none
  alone : ∀ t, o.dst = some t → ∀ j oj, ops[j]? = some oj → oj.dst = some t → j = i
  prev : ∀ k' i', k = k' + 1 → ph[k']? = some i' → ∃ e ∈ o.after, Region.binds .any e = true ∧ e.on = i'
  once : ∀ k', ph[k']? = some i → k' = k
theorem phased_of (h : phasesB ops ph = true) {k i : Nat} (hk : ph[k]? = some i) : ∃ o, ops[i]? = some o ∧ Phased ops ph k i o := by
  unfold phasesB at h; rw [List.all_eq_true] at h; have hh := h (i, k) (List.mk_mem_zipIdx_iff_getElem?.2 hk); simp only [Bool.and_eq_true, List.all_eq_true, Bool.or_eq_true] at hh; obtain ⟨h1, h2⟩ := hh
  cases ho : ops[i]? with
  | none => rw [ho] at h1; cases h1
  | some o =>
    rw [ho] at h1; simp only [Bool.and_eq_true, Bool.or_eq_true, Option.isNone_iff_eq_none, beq_iff_eq] at h1; obtain ⟨⟨g1, g2⟩, g3⟩ := h1; refine ⟨o, rfl, g1, fun t ht j oj hj hd => ?_, fun k' i' hkk hi' => ?_, fun k' hk' => ?_⟩
    · rw [ht] at g2; simp only [List.all_eq_true, Bool.or_eq_true, beq_iff_eq, bne_iff_ne, ne_eq] at g2
      rcases g2 (oj, j) (List.mk_mem_zipIdx_iff_getElem?.2 (by simpa using hj)) with e | e
      · exact e
      · exact absurd hd e
    · subst hkk
      rcases g3 with e | e
      · omega
      · rw [Nat.add_sub_cancel, hi'] at e; simp only [List.any_eq_true, Bool.and_eq_true, beq_iff_eq, Array.mem_toList_iff] at e; exact e
    · have := h2 (i, k') (List.mk_mem_zipIdx_iff_getElem?.2 hk')
      simpa using this
structure MidP (ops : Array Oper) (ph : List Nat) (S : List Value → World → Prop) (T : Nat → Value → World → Prop) (a0 : Act) (listed : Array Bool) (a : Act) (w : World) : Prop where
  mid : Mid ops T a0 listed a w
  phase : ∃ vals : List Value, vals.length ≤ ph.length ∧ (∀ k i, ph[k]? = some i → listed.getD i true = decide (k < vals.length)) ∧ PFacts ops ph vals a ∧ S vals w
theorem getD_put_ne {a : Act} {d t : Tmp} {u : Value} (h : d ≠ t) : (a.put (some d) u).tmps.getD t undef = a.tmps.getD t undef := by
  simp [Act.put, Array.getD_eq_getD_getElem?, Array.getElem?_setIfInBounds_ne h]
theorem getD_put_self {a : Act} {d : Tmp} {u : Value} (h : d < a.tmps.size) : (a.put (some d) u).tmps.getD d undef = u := by
  simp [Act.put, Array.getD_eq_getD_getElem?, h]
theorem phases_any {a0 : Act} (hs : settledB ops a0.tmps.size = true) (hp : phasesB ops ph = true) (hT : ∀ t v w w', E w w' → T t v w → T t v w')
    (hTp : ∀ i ∈ ph, ∀ o, ops[i]? = some o → (∀ t, o.dst = some t → ∀ u w, T t u w) ∧ (o.dst = none → ∀ u w, T (a0.tmps.size + i) u w))
    (hob : ∀ i o, i ∉ ph → ops[i]? = some o → ∀ vals, Ob P ops (S vals) E T (a0.tmps.size + i) o) (hph : ∀ k i o, ph[k]? = some i → ops[i]? = some o → PhOb P ops ph S E T k o)
    (hfin : ∀ a w vals, a.defers = a0.defers → a.tmps.size = a0.tmps.size → (∀ t, t < a0.tmps.size → T t (a.tmps.getD t undef) w) → (∀ j o, ops[j]? = some o → o.dst = none → T (a0.tmps.size + j) undef w) → vals.length = ph.length → PFacts ops ph vals a → S vals w → Q .normal a w) :
    ∀ (fuel : Nat) (listed : Array Bool) (a : Act) (w : World), listed.size = ops.size → left ops listed ≤ fuel → MidP ops ph S T a0 listed a w → wpAny P .any ops Q fuel listed a w := by
  have fin : ∀ (listed : Array Bool) (a : Act) (w : World), Region.ready .any ops listed = [] → MidP ops ph S T a0 listed a w → Q .normal a w := by
    intro listed a w hr hm; obtain ⟨vals, hv1, hv2, hv3, hv4⟩ := hm.phase
    refine hfin a w vals hm.mid.defers hm.mid.size (fun t ht => hm.mid.told t ht fun j o hj _ => all_listed hs hr j (Array.getElem?_eq_some_iff.1 hj).1)
      (fun j o hj hd => hm.mid.done_ j o hj hd (all_listed hs hr j (Array.getElem?_eq_some_iff.1 hj).1)) ?_ hv3 hv4
    rcases Nat.lt_or_ge vals.length ph.length with h | h
    · have h1 := hv2 vals.length _ (List.getElem?_eq_getElem h); obtain ⟨o, ho, _⟩ := phased_of hp (List.getElem?_eq_getElem h); rw [all_listed hs hr _ (Array.getElem?_eq_some_iff.1 ho).1] at h1; simp at h1
    · omega
  intro fuel
  induction fuel with
  | zero =>
    intro listed a w hsz hleft hm
    have hr : Region.ready .any ops listed = [] := by
      refine List.eq_nil_iff_forall_not_mem.2 fun i hi => ?_; obtain ⟨hu, o, ho, _⟩ := mem_ready.1 hi; have := left_less (ops := ops) (Array.getElem?_eq_some_iff.1 ho).1 hu; omega
    exact ⟨hr, fin listed a w hr hm⟩
  | succ fuel ih =>
    intro listed a w hsz hleft hm; refine ⟨fun hr => fin listed a w hr hm, fun i hi => ?_⟩; obtain ⟨hu, o, ho, hedges⟩ := mem_ready.1 hi; have hisz := (Array.getElem?_eq_some_iff.1 ho).1; have st := settled_of hs ho; have hleft' := left_less (ops := ops) hisz hu; obtain ⟨vals, hv1, hv2, hv3, hv4⟩ := hm.phase
    -- behind the operation, what is foretold
    have next : ∀ u w', dstR T (a0.tmps.size + i) o.dst u w' → E w w' → Mid ops T a0 (listed.setIfInBounds i true) (a.put o.dst u) w' := by
      intro u w' hR hE; refine ⟨?_, ?_, ?_, ?_⟩
      · cases o.dst <;> exact hm.mid.defers
      · cases o.dst with
        | none => exact hm.mid.size
        | some d => simp [Act.put, hm.mid.size]
      · intro t ht hall
        by_cases hd : o.dst = some t
        · rw [hd, getD_put_self (by rw [hm.mid.size]; exact ht)]; exact hR.1 t hd
        · have hg : (a.put o.dst u).tmps.getD t undef = a.tmps.getD t undef := by
            cases hdd : o.dst with
            | none => rfl
            | some d => exact getD_put_ne fun e => hd (by rw [hdd, e])
          rw [hg]; refine hT t _ w w' hE (hm.mid.told t ht fun j oj hj hdj => ?_)
          have hji : j ≠ i := by
            rintro rfl; rw [ho] at hj; injection hj with hj; subst hj; exact hd hdj
          have := hall j oj hj hdj
          rwa [getD_set_ne true (Ne.symm hji)] at this
      · intro j oj hj hdj hl
        by_cases hji : j = i
        · subst hji; rw [ho] at hj; injection hj with hj; subst hj; exact hR.2 hdj
        · rw [getD_set_ne true (Ne.symm hji)] at hl; exact hT _ _ w w' hE (hm.mid.done_ j oj hj hdj hl)
    unfold wpOp; simp only [ho]
    have hlook : ∀ t ∈ o.looksAt ops, T t (a.tmps.getD t undef) w ∧ a.tmps[t]? = some (a.tmps.getD t undef) := by
      intro t ht; obtain ⟨hlt, hw⟩ := st.looks t ht; refine ⟨hm.mid.told t hlt fun j oj hj hd => ?_, ?_⟩
      · obtain ⟨e, he, hb, rfl⟩ := hw j oj hj hd; have := hedges e he hb; simp only [Array.getD_eq_getD_getElem?] at this ⊢
        cases hx : listed[e.on]? with
        | some b => rw [hx] at this; simpa using this
        | none => rfl
      · rw [Array.getD_eq_getD_getElem?, Array.getElem?_eq_getElem (by rw [hm.mid.size]; exact hlt)]; rfl
    by_cases hiph : i ∈ ph
    · obtain ⟨k, hk⟩ := List.getElem?_of_mem hiph; obtain ⟨o', ho', hph'⟩ := phased_of hp hk; rw [ho] at ho'; injection ho' with ho'; subst ho'
      have hkl : ¬ k < vals.length := by
        have := hv2 k i hk; rw [hu] at this
        simpa using this
      have hkv : vals.length = k := by
        rcases Nat.lt_or_ge vals.length k with hlt | hge
        · exfalso; obtain ⟨k', rfl⟩ : ∃ k', k = k' + 1 := ⟨k - 1, by omega⟩
          have hk1 : k' < ph.length := by have := (List.getElem?_eq_some_iff.1 hk).1; omega
          obtain ⟨e, he, hb, hon⟩ := hph'.prev k' _ rfl (List.getElem?_eq_getElem hk1); have h1 := hedges e he hb; have h2 := hv2 k' _ (List.getElem?_eq_getElem hk1); rw [← hon] at h2
          have h3 : listed.getD e.on true = true := by
            simp only [Array.getD_eq_getD_getElem?] at h1 ⊢
            cases hx : listed[e.on]? with
            | some b => rw [hx] at h1; simpa using h1
            | none => rfl
          rw [h3] at h2; have : k' < vals.length := by simpa using h2.symm
          omega
        · omega
      have hwant : Region.wanted o (yielded ops a.tmps) = true := by simp [Region.wanted, hph'.guard]
      rw [if_pos hwant]; have hl := hph k i o hk ho a w vals hkv hv4 (fun t ht => (hlook t ht).1) hv3; refine .inl (lands_wp hl fun u w' hR _ hE => ?_); have hTT := hTp i hiph o ho; refine ih _ _ _ (by simpa using hsz) (by omega) ⟨next u w' ⟨fun d hd => hTT.1 d hd _ _, fun hd => hTT.2 hd _ _⟩ hE, vals ++ [u], ?_, ?_, ?_, hR⟩
      · have := (List.getElem?_eq_some_iff.1 hk).1; simp; omega
      · intro k2 i2 h2
        by_cases h22 : i2 = i
        · subst h22; have := hph'.once k2 h2; subst this; rw [getD_set_self]; simp; omega
        · rw [getD_set_ne true (Ne.symm h22), hv2 k2 i2 h2]; have : k2 ≠ k := by rintro rfl; rw [hk] at h2; injection h2 with h2; exact h22 h2.symm
          simp; omega
      · intro k2 i2 o2 t2 h2 hlt ho2 hd2
        by_cases h22 : i2 = i
        · subst h22; have := hph'.once k2 h2; subst this; rw [ho] at ho2; injection ho2 with ho2; subst ho2; rw [hd2, getD_put_self (by rw [hm.mid.size]; exact st.dst _ hd2), ← hkv]; simp
        · have hne : k2 ≠ k := by rintro rfl; rw [hk] at h2; injection h2 with h2; exact h22 h2.symm
          have hlt2 : k2 < vals.length := by simp at hlt; omega
          have hg : (a.put o.dst u).tmps.getD t2 undef = a.tmps.getD t2 undef := by
            cases hdd : o.dst with
            | none => rfl
            | some d =>
              refine getD_put_ne fun e => h22 ?_; subst e; exact hph'.alone d hdd i2 o2 ho2 hd2
          rw [hg, List.getElem?_append_left hlt2]; exact hv3 k2 i2 o2 t2 h2 hlt2 ho2 hd2
    · have h := hob i o hiph ho vals a w hv4 hlook
      have goon : ∀ u w', dstR T (a0.tmps.size + i) o.dst u w' → S vals w' → E w w' → wpAny P .any ops Q fuel (listed.setIfInBounds i true) (a.put o.dst u) w' := by
        intro u w' hR hS hE; refine ih _ _ _ (by simpa using hsz) (by omega) ⟨next u w' hR hE, vals, hv1, ?_, ?_, hS⟩
        · intro k2 i2 h2; have h22 : i2 ≠ i := by rintro rfl; exact hiph (List.mem_of_getElem? h2)
          rw [getD_set_ne true (Ne.symm h22), hv2 k2 i2 h2]
        · intro k2 i2 o2 t2 h2 hlt ho2 hd2
          have hg : (a.put o.dst u).tmps.getD t2 undef = a.tmps.getD t2 undef := by
            cases hdd : o.dst with
            | none => rfl
            | some d =>
              refine getD_put_ne fun e => ?_; subst e; obtain ⟨o3, ho3, hph3⟩ := phased_of hp h2; rw [ho2] at ho3; injection ho3 with ho3; subst ho3; have := hph3.alone d hd2 i o ho hdd; subst this; exact hiph (List.mem_of_getElem? h2)
          rw [hg]; exact hv3 k2 i2 o2 t2 h2 hlt ho2 hd2
      by_cases hwant : Region.wanted o (yielded ops a.tmps) = true
      · rw [if_pos hwant] at h ⊢; exact .inl (lands_wp h goon)
      · rw [if_neg hwant] at h ⊢; exact goon undef w h.1 hv4 h.2
inductive Spec where
  | op (l : List Tmp) (g : Option (Tmp × Bool))
  | phase (k : Nat) (l : List Tmp) (s : List (Nat × Tmp))
def PSlots (vals : List Value) (a : Act) : List (Nat × Tmp) → Prop
  | [] => True
  | (k, t) :: r => (k < vals.length → vals[k]? = some (a.tmps.getD t undef)) ∧ PSlots vals a r
def ObsP (P : Program) (S : List Value → World → Prop) (E : World → World → Prop) (T : Nat → Value → World → Prop) : Nat → List Oper → List Spec → Prop
  | v, o :: r, .op l g :: k => (∀ vals, ObT P (S vals) E T l g v o) ∧ ObsP P S E T (v + 1) r k
  | v, o :: r, .phase n l s :: k => (∀ (a : Act) (w : World) (vals : List Value), vals.length = n → S vals w → Facts T a w l → PSlots vals a s →
      Lands P (fun _ => True) E (fun u w' => S (vals ++ [u]) w') w ((execOp a.eval o).run P w)) ∧ ObsP P S E T (v + 1) r k
  | _, _, _ => True
def specsB (ops : Array Oper) (ph : List Nat) : Nat → List Oper → List Spec → Bool
  | _, [], [] => true
  | i, o :: r, .op l g :: k => !ph.contains i && looksB ops [o] [(l, g)] && specsB ops ph (i + 1) r k
  | i, o :: r, .phase n l s :: k => ph[n]? == some i && (l.all fun t => (o.looksAt ops).contains t) &&
      (s.all fun (j, t) => match ph[j]? with
        | none => false
        | some i' => (ops[i']?).bind (·.dst) == some t) && specsB ops ph (i + 1) r k
  | _, _, _ => false
theorem specs_at : ∀ {l : List Oper} {k : List Spec} {v i : Nat}, specsB ops ph i l k = true → ObsP P S E T v l k → ∀ j o, l[j]? = some o →
    (∃ lk g, i + j ∉ ph ∧ looksB ops [o] [(lk, g)] = true ∧ ∀ vals, ObT P (S vals) E T lk g (v + j) o) ∨
    (∃ n lk s, ph[n]? = some (i + j) ∧ (∀ t ∈ lk, t ∈ o.looksAt ops) ∧ (∀ x ∈ s, ∃ i' oi, ph[x.1]? = some i' ∧ ops[i']? = some oi ∧ oi.dst = some x.2) ∧
      ∀ (a : Act) (w : World) (vals : List Value), vals.length = n → S vals w → Facts T a w lk → PSlots vals a s → Lands P (fun _ => True) E (fun u w' => S (vals ++ [u]) w') w ((execOp a.eval o).run P w))
  | [], _, _, _, _, _, j, _, hj => by simp at hj
  | _ :: _, [], _, _, h, _, _, _, _ => by simp [specsB] at h
  | x :: r, .op l g :: k, v, i, h, hb, j, o, hj => by
    simp only [specsB, Bool.and_eq_true, Bool.not_eq_true'] at h
    cases j with
    | zero =>
      simp at hj; subst hj; refine .inl ⟨l, g, ?_, h.1.2, hb.1⟩; intro hm; have := List.contains_iff_mem.2 hm; rw [Nat.add_zero, h.1.1] at this
      cases this
    | succ j =>
      have := specs_at h.2 hb.2 j o (by simpa using hj)
      rwa [show i + 1 + j = i + (j + 1) by omega, show v + 1 + j = v + (j + 1) by omega] at this
  | x :: r, .phase n l s :: k, v, i, h, hb, j, o, hj => by
    simp only [specsB, Bool.and_eq_true, beq_iff_eq, List.all_eq_true, List.contains_iff_mem] at h
    cases j with
    | zero =>
      simp at hj; subst hj; refine .inr ⟨n, l, s, h.1.1.1, h.1.1.2, fun y hy => ?_, hb.1⟩; have h2 := h.1.2 y hy
      cases h3 : ph[y.1]? with
      | none => rw [h3] at h2; cases h2
      | some i' =>
        rw [h3] at h2; simp only [beq_iff_eq, Option.bind_eq_some_iff] at h2; obtain ⟨oi, h4, h5⟩ := h2; exact ⟨i', oi, rfl, h4, h5⟩
    | succ j =>
      have := specs_at h.2 hb.2 j o (by simpa using hj)
      rwa [show i + 1 + j = i + (j + 1) by omega, show v + 1 + j = v + (j + 1) by omega] at this
def quietB (ops : Array Oper) (ph : List Nat) (n : Nat) (keys : List Nat) : Bool :=
  ph.all fun i => match ops[i]? with
    | none => false
    | some o => match o.dst with
      | some t => !keys.contains t
      | none => !keys.contains (n + i)
theorem tab_free {l : List (Nat × (Value → World → Prop))} {t : Nat} (h : (l.map (·.1)).contains t = false) (u : Value) (w : World) : tab l t u w := by
  unfold tab
  cases hf : l.find? (fun p => p.1 == t) with
  | none => trivial
  | some p =>
    have h1 := List.mem_of_find?_eq_some hf; have h2 : p.1 = t := by simpa using List.find?_some hf
    have : (l.map (·.1)).contains t = true := List.contains_iff_mem.2 (h2 ▸ List.mem_map_of_mem h1); rw [h] at this
    cases this
theorem wp_region_phases {id : Nat} {a0 : Act} {w0 : World} (ph : List Nat) (l0 l1 : List (Nat × (Value → World → Prop))) (k : List Spec)
    (hm : P.follows .mixedOrders = true) (hs : settledB ops a0.tmps.size = true) (hp : phasesB ops ph = true) (hk : specsB ops ph 0 ops.toList k = true)
    (hq : quietB ops ph a0.tmps.size ((l0 ++ l1).map (·.1)) = true)
    (hw : (l1.all fun p => decide (a0.tmps.size ≤ p.1) || ops.toList.any fun o => o.dst == some p.1) = true) (hst : StableAll E (l0 ++ l1)) (hst0 : StartAll a0 w0.drew l0) (hS : S [] w0.drew)
    (hob : ObsP P S E (tab (l0 ++ l1)) a0.tmps.size ops.toList k)
    (hfin : ∀ a w vals, a.defers = a0.defers → a.tmps.size = a0.tmps.size → (∀ t, t < a0.tmps.size → tab (l0 ++ l1) t (a.tmps.getD t undef) w) → (∀ j o, ops[j]? = some o → o.dst = none → tab (l0 ++ l1) (a0.tmps.size + j) undef w) →
      vals.length = ph.length → PFacts ops ph vals a → S vals w → Q .normal a w) :
    (Code.region id ops true).wp P Q a0 w0 := by
  have hall := specs_at hk hob; refine wp_region_any hm (phases_any (S := S) (T := tab (l0 ++ l1)) hs hp (stable_tab hst) ?_ ?_ ?_ hfin ops.size _ a0 _ (by simp) ?_ ⟨⟨rfl, rfl, fun t ht hfree => ?_, fun j o hj _ hl => ?_⟩, [], by simp, ?_, ?_, hS⟩)
  · intro i hi o ho; unfold quietB at hq; rw [List.all_eq_true] at hq; have := hq i hi; rw [ho] at this; refine ⟨fun t ht u w => ?_, fun hd u w => ?_⟩
    · simp only [ht] at this; exact tab_free (by simpa using this) u w
    · simp only [hd] at this; exact tab_free (by simpa using this) u w
  · intro i o hi ho vals
    rcases hall i o (by simpa using ho) with ⟨lk, g, h1, h2, h3⟩ | ⟨n, lk, s, h1, _⟩
    · have := obs_of (P := P) (S := S vals) (E := E) (T := tab (l0 ++ l1)) (v := a0.tmps.size + i) h2 ⟨h3 vals, trivial⟩; exact this.1
    · rw [Nat.zero_add] at h1; exact absurd (List.mem_of_getElem? h1) hi
  · intro n i o hi ho a w vals hv hSv hl hpf
    rcases hall i o (by simpa using ho) with ⟨lk, g, h1, h2, h3⟩ | ⟨n', lk, s, h1, h2, h3, h4⟩
    · rw [Nat.zero_add] at h1; exact absurd (List.mem_of_getElem? hi) h1
    · rw [Nat.zero_add] at h1; obtain ⟨o', _, hph'⟩ := phased_of hp hi; have := hph'.once n' h1; subst this; refine h4 a w vals hv hSv (facts_of fun t ht => hl t (h2 t ht)) ?_
      have : ∀ s' : List (Nat × Tmp), (∀ x ∈ s', x ∈ s) → PSlots vals a s' := by
        intro s'
        induction s' with
        | nil => intro _; trivial
        | cons x r ih =>
          intro hx; obtain ⟨i', oi, q1, q2, q3⟩ := h3 x (hx x (List.mem_cons_self ..)); exact ⟨fun hlt => hpf x.1 i' oi x.2 q1 hlt q2 q3, ih fun y hy => hx y (List.mem_cons_of_mem _ hy)⟩
      exact this s fun _ h => h
  · refine Nat.le_trans (List.length_filter_le _ _) ?_; simp
  · unfold tab
    cases hf : (l0 ++ l1).find? (fun p => p.1 == t) with
    | none => trivial
    | some p =>
      have hpt : p.1 = t := by simpa using List.find?_some hf
      rcases List.mem_append.1 (List.mem_of_find?_eq_some hf) with h | h
      · have := start_mem hst0 p h; rw [hpt] at this; exact this
      · exfalso; rw [List.all_eq_true] at hw; have := hw p h; simp only [Bool.or_eq_true, decide_eq_true_eq, List.any_eq_true, beq_iff_eq, Array.mem_toList_iff] at this
        rcases this with hge | ⟨o, ho, hd⟩
        · omega
        · obtain ⟨j, hj⟩ := Array.getElem?_of_mem ho; have := hfree j o hj (by rw [hd, hpt]); have hlt := (Array.getElem?_eq_some_iff.1 hj).1; simp [Array.getD_eq_getD_getElem?, hlt] at this
  · have hlt := (Array.getElem?_eq_some_iff.1 hj).1; simp [Array.getD_eq_getD_getElem?, hlt] at hl
  · intro k2 i2 h2; obtain ⟨o, ho, _⟩ := phased_of hp h2; have hlt := (Array.getElem?_eq_some_iff.1 ho).1; simp [Array.getD_eq_getD_getElem?, hlt]
  · intro k2 i2 o2 t2 _ hlt; simp at hlt
end
end Go.Proofs.YtngkolcpbgibcaaGreatDoor
namespace Go.Proofs.YtngkolcpbgibcaaGreatDoor
open Go.RowKit
section
variable {P : Program} {ops : Array Oper} {ph : List Nat} {Q : Exit → Act → World → Prop} {S : List Value → World → Prop} {E : World → World → Prop} {T : Nat → Value → World → Prop}
def earlyB (ops : Array Oper) (ph : List Nat) (k i : Nat) : Bool :=
  match ph[k]? with
  | none => false
  | some i0 => match ops[i0]? with
    | none => false
    | some o => o.after.toList.any fun e => Region.binds .any e && e.on == i
structure MidE (ops : Array Oper) (ph : List Nat) (S : List Value → World → Prop) (T : Nat → Value → World → Prop) (a0 : Act) (listed : Array Bool) (a : Act) (w : World) : Prop where
  mid : Mid ops T a0 listed a w
  phase : ∃ vals : List Value, vals.length ≤ ph.length ∧ (∀ k i, ph[k]? = some i → listed.getD i true = decide (k < vals.length)) ∧ PFacts ops ph vals a ∧ S vals w ∧ (∀ k, k < vals.length → ∀ i, earlyB ops ph k i = true → listed.getD i true = true)
theorem phases_early {a0 : Act} (hs : settledB ops a0.tmps.size = true) (hp : phasesB ops ph = true) (hT : ∀ t v w w', E w w' → T t v w → T t v w')
    (hTp : ∀ i ∈ ph, ∀ o, ops[i]? = some o → (∀ t, o.dst = some t → ∀ u w, T t u w) ∧ (o.dst = none → ∀ u w, T (a0.tmps.size + i) u w))
    (hob : ∀ i o, i ∉ ph → ops[i]? = some o → ∀ vals, (∀ k, earlyB ops ph k i = true → vals.length ≤ k) → Ob P ops (S vals) E T (a0.tmps.size + i) o) (hph : ∀ k i o, ph[k]? = some i → ops[i]? = some o → PhOb P ops ph S E T k o)
    (hfin : ∀ a w vals, a.defers = a0.defers → a.tmps.size = a0.tmps.size → (∀ t, t < a0.tmps.size → T t (a.tmps.getD t undef) w) → (∀ j o, ops[j]? = some o → o.dst = none → T (a0.tmps.size + j) undef w) → vals.length = ph.length → PFacts ops ph vals a → S vals w → Q .normal a w) :
    ∀ (fuel : Nat) (listed : Array Bool) (a : Act) (w : World), listed.size = ops.size → left ops listed ≤ fuel → MidE ops ph S T a0 listed a w → wpAny P .any ops Q fuel listed a w := by
  have fin : ∀ (listed : Array Bool) (a : Act) (w : World), Region.ready .any ops listed = [] → MidE ops ph S T a0 listed a w → Q .normal a w := by
    intro listed a w hr hm; obtain ⟨vals, hv1, hv2, hv3, hv4, hv5⟩ := hm.phase
    refine hfin a w vals hm.mid.defers hm.mid.size (fun t ht => hm.mid.told t ht fun j o hj _ => all_listed hs hr j (Array.getElem?_eq_some_iff.1 hj).1)
      (fun j o hj hd => hm.mid.done_ j o hj hd (all_listed hs hr j (Array.getElem?_eq_some_iff.1 hj).1)) ?_ hv3 hv4
    rcases Nat.lt_or_ge vals.length ph.length with h | h
    · have h1 := hv2 vals.length _ (List.getElem?_eq_getElem h); obtain ⟨o, ho, _⟩ := phased_of hp (List.getElem?_eq_getElem h); rw [all_listed hs hr _ (Array.getElem?_eq_some_iff.1 ho).1] at h1; simp at h1
    · omega
  intro fuel
  induction fuel with
  | zero =>
    intro listed a w hsz hleft hm
    have hr : Region.ready .any ops listed = [] := by
      refine List.eq_nil_iff_forall_not_mem.2 fun i hi => ?_; obtain ⟨hu, o, ho, _⟩ := mem_ready.1 hi; have := left_less (ops := ops) (Array.getElem?_eq_some_iff.1 ho).1 hu; omega
    exact ⟨hr, fin listed a w hr hm⟩
  | succ fuel ih =>
    intro listed a w hsz hleft hm; refine ⟨fun hr => fin listed a w hr hm, fun i hi => ?_⟩; obtain ⟨hu, o, ho, hedges⟩ := mem_ready.1 hi; have hisz := (Array.getElem?_eq_some_iff.1 ho).1; have st := settled_of hs ho; have hleft' := left_less (ops := ops) hisz hu; obtain ⟨vals, hv1, hv2, hv3, hv4, hv5⟩ := hm.phase
    -- behind the operation, what is foretold
    have next : ∀ u w', dstR T (a0.tmps.size + i) o.dst u w' → E w w' → Mid ops T a0 (listed.setIfInBounds i true) (a.put o.dst u) w' := by
      intro u w' hR hE; refine ⟨?_, ?_, ?_, ?_⟩
      · cases o.dst <;> exact hm.mid.defers
      · cases o.dst with
        | none => exact hm.mid.size
        | some d => simp [Act.put, hm.mid.size]
      · intro t ht hall
        by_cases hd : o.dst = some t
        · rw [hd, getD_put_self (by rw [hm.mid.size]; exact ht)]; exact hR.1 t hd
        · have hg : (a.put o.dst u).tmps.getD t undef = a.tmps.getD t undef := by
            cases hdd : o.dst with
            | none => rfl
            | some d => exact getD_put_ne fun e => hd (by rw [hdd, e])
          rw [hg]; refine hT t _ w w' hE (hm.mid.told t ht fun j oj hj hdj => ?_)
          have hji : j ≠ i := by
            rintro rfl; rw [ho] at hj; injection hj with hj; subst hj; exact hd hdj
          have := hall j oj hj hdj
          rwa [getD_set_ne true (Ne.symm hji)] at this
      · intro j oj hj hdj hl
        by_cases hji : j = i
        · subst hji; rw [ho] at hj; injection hj with hj; subst hj; exact hR.2 hdj
        · rw [getD_set_ne true (Ne.symm hji)] at hl; exact hT _ _ w w' hE (hm.mid.done_ j oj hj hdj hl)
    unfold wpOp; simp only [ho]
    have hlook : ∀ t ∈ o.looksAt ops, T t (a.tmps.getD t undef) w ∧ a.tmps[t]? = some (a.tmps.getD t undef) := by
      intro t ht; obtain ⟨hlt, hw⟩ := st.looks t ht; refine ⟨hm.mid.told t hlt fun j oj hj hd => ?_, ?_⟩
      · obtain ⟨e, he, hb, rfl⟩ := hw j oj hj hd; have := hedges e he hb; simp only [Array.getD_eq_getD_getElem?] at this ⊢
        cases hx : listed[e.on]? with
        | some b => rw [hx] at this; simpa using this
        | none => rfl
      · rw [Array.getD_eq_getD_getElem?, Array.getElem?_eq_getElem (by rw [hm.mid.size]; exact hlt)]; rfl
    by_cases hiph : i ∈ ph
    · obtain ⟨k, hk⟩ := List.getElem?_of_mem hiph; obtain ⟨o', ho', hph'⟩ := phased_of hp hk; rw [ho] at ho'; injection ho' with ho'; subst ho'
      have hkl : ¬ k < vals.length := by
        have := hv2 k i hk; rw [hu] at this
        simpa using this
      have hkv : vals.length = k := by
        rcases Nat.lt_or_ge vals.length k with hlt | hge
        · exfalso; obtain ⟨k', rfl⟩ : ∃ k', k = k' + 1 := ⟨k - 1, by omega⟩
          have hk1 : k' < ph.length := by have := (List.getElem?_eq_some_iff.1 hk).1; omega
          obtain ⟨e, he, hb, hon⟩ := hph'.prev k' _ rfl (List.getElem?_eq_getElem hk1); have h1 := hedges e he hb; have h2 := hv2 k' _ (List.getElem?_eq_getElem hk1); rw [← hon] at h2
          have h3 : listed.getD e.on true = true := by
            simp only [Array.getD_eq_getD_getElem?] at h1 ⊢
            cases hx : listed[e.on]? with
            | some b => rw [hx] at h1; simpa using h1
            | none => rfl
          rw [h3] at h2; have : k' < vals.length := by simpa using h2.symm
          omega
        · omega
      have hwant : Region.wanted o (yielded ops a.tmps) = true := by simp [Region.wanted, hph'.guard]
      rw [if_pos hwant]; have hl := hph k i o hk ho a w vals hkv hv4 (fun t ht => (hlook t ht).1) hv3; refine .inl (lands_wp hl fun u w' hR _ hE => ?_); have hTT := hTp i hiph o ho; refine ih _ _ _ (by simpa using hsz) (by omega) ⟨next u w' ⟨fun d hd => hTT.1 d hd _ _, fun hd => hTT.2 hd _ _⟩ hE, vals ++ [u], ?_, ?_, ?_, hR, ?_⟩
      · have := (List.getElem?_eq_some_iff.1 hk).1; simp; omega
      · intro k2 i2 h2
        by_cases h22 : i2 = i
        · subst h22; have := hph'.once k2 h2; subst this; rw [getD_set_self]; simp; omega
        · rw [getD_set_ne true (Ne.symm h22), hv2 k2 i2 h2]; have : k2 ≠ k := by rintro rfl; rw [hk] at h2; injection h2 with h2; exact h22 h2.symm
          simp; omega
      · intro k2 i2 o2 t2 h2 hlt ho2 hd2
        by_cases h22 : i2 = i
        · subst h22; have := hph'.once k2 h2; subst this; rw [ho] at ho2; injection ho2 with ho2; subst ho2; rw [hd2, getD_put_self (by rw [hm.mid.size]; exact st.dst _ hd2), ← hkv]; simp
        · have hne : k2 ≠ k := by rintro rfl; rw [hk] at h2; injection h2 with h2; exact h22 h2.symm
          have hlt2 : k2 < vals.length := by simp at hlt; omega
          have hg : (a.put o.dst u).tmps.getD t2 undef = a.tmps.getD t2 undef := by
            cases hdd : o.dst with
            | none => rfl
            | some d =>
              refine getD_put_ne fun e => h22 ?_; subst e; exact hph'.alone d hdd i2 o2 ho2 hd2
          rw [hg, List.getElem?_append_left hlt2]; exact hv3 k2 i2 o2 t2 h2 hlt2 ho2 hd2
      · intro k2 hk2 j hj
        by_cases hji : j = i
        · subst hji; exact getD_set_self
        · rw [getD_set_ne true (Ne.symm hji)]
          by_cases hkk : k2 < vals.length
          · exact hv5 k2 hkk j hj
          · have hk0 : k2 = k := by simp at hk2; omega
            subst hk0; unfold earlyB at hj; rw [hk] at hj; simp only [ho, List.any_eq_true, Bool.and_eq_true, beq_iff_eq, Array.mem_toList_iff] at hj; obtain ⟨e, he, hb, rfl⟩ := hj; have h1 := hedges e he hb; simp only [Array.getD_eq_getD_getElem?] at h1 ⊢
            cases hx : listed[e.on]? with
            | some b => rw [hx] at h1; simpa using h1
            | none => rfl
    · have hearly : ∀ k, earlyB ops ph k i = true → vals.length ≤ k := fun k he => by
        rcases Nat.lt_or_ge k vals.length with hlt | hge
        · have := hv5 k hlt i he; rw [hu] at this
          cases this
        · exact hge
      have h := hob i o hiph ho vals hearly a w hv4 hlook
      have goon : ∀ u w', dstR T (a0.tmps.size + i) o.dst u w' → S vals w' → E w w' → wpAny P .any ops Q fuel (listed.setIfInBounds i true) (a.put o.dst u) w' := by
        intro u w' hR hS hE; refine ih _ _ _ (by simpa using hsz) (by omega) ⟨next u w' hR hE, vals, hv1, ?_, ?_, hS, ?_⟩
        · intro k2 i2 h2; have h22 : i2 ≠ i := by rintro rfl; exact hiph (List.mem_of_getElem? h2)
          rw [getD_set_ne true (Ne.symm h22), hv2 k2 i2 h2]
        · intro k2 i2 o2 t2 h2 hlt ho2 hd2
          have hg : (a.put o.dst u).tmps.getD t2 undef = a.tmps.getD t2 undef := by
            cases hdd : o.dst with
            | none => rfl
            | some d =>
              refine getD_put_ne fun e => ?_; subst e; obtain ⟨o3, ho3, hph3⟩ := phased_of hp h2; rw [ho2] at ho3; injection ho3 with ho3; subst ho3; have := hph3.alone d hd2 i o ho hdd; subst this; exact hiph (List.mem_of_getElem? h2)
          rw [hg]; exact hv3 k2 i2 o2 t2 h2 hlt ho2 hd2
        · intro k2 hk2 j hj
          by_cases hji : j = i
          · subst hji; exact getD_set_self
          · rw [getD_set_ne true (Ne.symm hji)]; exact hv5 k2 hk2 j hj
      by_cases hwant : Region.wanted o (yielded ops a.tmps) = true
      · rw [if_pos hwant] at h ⊢; exact .inl (lands_wp h goon)
      · rw [if_neg hwant] at h ⊢; exact goon undef w h.1 hv4 h.2
def ObsE (P : Program) (ops : Array Oper) (ph : List Nat) (S : List Value → World → Prop) (E : World → World → Prop) (T : Nat → Value → World → Prop) : Nat → Nat → List Oper → List Spec → Prop
  | v, i, o :: r, .op l g :: k => (∀ vals, (∀ k, earlyB ops ph k i = true → vals.length ≤ k) → ObT P (S vals) E T l g v o) ∧ ObsE P ops ph S E T (v + 1) (i + 1) r k
  | v, i, o :: r, .phase n l s :: k => (∀ (a : Act) (w : World) (vals : List Value), vals.length = n → S vals w → Facts T a w l → PSlots vals a s →
      Lands P (fun _ => True) E (fun u w' => S (vals ++ [u]) w') w ((execOp a.eval o).run P w)) ∧ ObsE P ops ph S E T (v + 1) (i + 1) r k
  | _, _, _, _ => True
theorem specs_early : ∀ {l : List Oper} {k : List Spec} {v i : Nat}, specsB ops ph i l k = true → ObsE P ops ph S E T v i l k → ∀ j o, l[j]? = some o →
    (∃ lk g, i + j ∉ ph ∧ looksB ops [o] [(lk, g)] = true ∧ ∀ vals, (∀ k, earlyB ops ph k (i + j) = true → vals.length ≤ k) → ObT P (S vals) E T lk g (v + j) o) ∨
    (∃ n lk s, ph[n]? = some (i + j) ∧ (∀ t ∈ lk, t ∈ o.looksAt ops) ∧ (∀ x ∈ s, ∃ i' oi, ph[x.1]? = some i' ∧ ops[i']? = some oi ∧ oi.dst = some x.2) ∧
      ∀ (a : Act) (w : World) (vals : List Value), vals.length = n → S vals w → Facts T a w lk → PSlots vals a s → Lands P (fun _ => True) E (fun u w' => S (vals ++ [u]) w') w ((execOp a.eval o).run P w))
  | [], _, _, _, _, _, j, _, hj => by simp at hj
  | _ :: _, [], _, _, h, _, _, _, _ => by simp [specsB] at h
  | x :: r, .op l g :: k, v, i, h, hb, j, o, hj => by
    simp only [specsB, Bool.and_eq_true, Bool.not_eq_true'] at h
    cases j with
    | zero =>
      simp at hj; subst hj; refine .inl ⟨l, g, ?_, h.1.2, hb.1⟩; intro hm; have := List.contains_iff_mem.2 hm; rw [Nat.add_zero, h.1.1] at this
      cases this
    | succ j =>
      have := specs_early h.2 hb.2 j o (by simpa using hj)
      rwa [show i + 1 + j = i + (j + 1) by omega, show v + 1 + j = v + (j + 1) by omega] at this
  | x :: r, .phase n l s :: k, v, i, h, hb, j, o, hj => by
    simp only [specsB, Bool.and_eq_true, beq_iff_eq, List.all_eq_true, List.contains_iff_mem] at h
    cases j with
    | zero =>
      simp at hj; subst hj; refine .inr ⟨n, l, s, h.1.1.1, h.1.1.2, fun y hy => ?_, hb.1⟩; have h2 := h.1.2 y hy
      cases h3 : ph[y.1]? with
      | none => rw [h3] at h2; cases h2
      | some i' =>
        rw [h3] at h2; simp only [beq_iff_eq, Option.bind_eq_some_iff] at h2; obtain ⟨oi, h4, h5⟩ := h2; exact ⟨i', oi, rfl, h4, h5⟩
    | succ j =>
      have := specs_early h.2 hb.2 j o (by simpa using hj)
      rwa [show i + 1 + j = i + (j + 1) by omega, show v + 1 + j = v + (j + 1) by omega] at this
theorem wp_region_early {id : Nat} {a0 : Act} {w0 : World} (ph : List Nat) (l0 l1 : List (Nat × (Value → World → Prop))) (k : List Spec)
    (hm : P.follows .mixedOrders = true) (hs : settledB ops a0.tmps.size = true) (hp : phasesB ops ph = true) (hk : specsB ops ph 0 ops.toList k = true)
    (hq : quietB ops ph a0.tmps.size ((l0 ++ l1).map (·.1)) = true)
    (hw : (l1.all fun p => decide (a0.tmps.size ≤ p.1) || ops.toList.any fun o => o.dst == some p.1) = true) (hst : StableAll E (l0 ++ l1)) (hst0 : StartAll a0 w0.drew l0) (hS : S [] w0.drew)
    (hob : ObsE P ops ph S E (tab (l0 ++ l1)) a0.tmps.size 0 ops.toList k)
    (hfin : ∀ a w vals, a.defers = a0.defers → a.tmps.size = a0.tmps.size → (∀ t, t < a0.tmps.size → tab (l0 ++ l1) t (a.tmps.getD t undef) w) → (∀ j o, ops[j]? = some o → o.dst = none → tab (l0 ++ l1) (a0.tmps.size + j) undef w) →
      vals.length = ph.length → PFacts ops ph vals a → S vals w → Q .normal a w) :
    (Code.region id ops true).wp P Q a0 w0 := by
  have hall := specs_early hk hob; refine wp_region_any hm (phases_early (S := S) (T := tab (l0 ++ l1)) hs hp (stable_tab hst) ?_ ?_ ?_ hfin ops.size _ a0 _ (by simp) ?_ ⟨⟨rfl, rfl, fun t ht hfree => ?_, fun j o hj _ hl => ?_⟩, [], by simp, ?_, ?_, hS, fun k hk => absurd hk (by simp)⟩)
  · intro i hi o ho; unfold quietB at hq; rw [List.all_eq_true] at hq; have := hq i hi; rw [ho] at this; refine ⟨fun t ht u w => ?_, fun hd u w => ?_⟩
    · simp only [ht] at this; exact tab_free (by simpa using this) u w
    · simp only [hd] at this; exact tab_free (by simpa using this) u w
  · intro i o hi ho vals hearly
    rcases hall i o (by simpa using ho) with ⟨lk, g, h1, h2, h3⟩ | ⟨n, lk, s, h1, _⟩
    · have := obs_of (P := P) (S := S vals) (E := E) (T := tab (l0 ++ l1)) (v := a0.tmps.size + i) h2 ⟨h3 vals (by rw [Nat.zero_add]; exact hearly), trivial⟩; exact this.1
    · rw [Nat.zero_add] at h1; exact absurd (List.mem_of_getElem? h1) hi
  · intro n i o hi ho a w vals hv hSv hl hpf
    rcases hall i o (by simpa using ho) with ⟨lk, g, h1, h2, h3⟩ | ⟨n', lk, s, h1, h2, h3, h4⟩
    · rw [Nat.zero_add] at h1; exact absurd (List.mem_of_getElem? hi) h1
    · rw [Nat.zero_add] at h1; obtain ⟨o', _, hph'⟩ := phased_of hp hi; have := hph'.once n' h1; subst this; refine h4 a w vals hv hSv (facts_of fun t ht => hl t (h2 t ht)) ?_
      have : ∀ s' : List (Nat × Tmp), (∀ x ∈ s', x ∈ s) → PSlots vals a s' := by
        intro s'
        induction s' with
        | nil => intro _; trivial
        | cons x r ih =>
          intro hx; obtain ⟨i', oi, q1, q2, q3⟩ := h3 x (hx x (List.mem_cons_self ..)); exact ⟨fun hlt => hpf x.1 i' oi x.2 q1 hlt q2 q3, ih fun y hy => hx y (List.mem_cons_of_mem _ hy)⟩
      exact this s fun _ h => h
  · refine Nat.le_trans (List.length_filter_le _ _) ?_; simp
  · unfold tab
    cases hf : (l0 ++ l1).find? (fun p => p.1 == t) with
    | none => trivial
    | some p =>
      have hpt : p.1 = t := by simpa using List.find?_some hf
      rcases List.mem_append.1 (List.mem_of_find?_eq_some hf) with h | h
      · have := start_mem hst0 p h; rw [hpt] at this; exact this
      · exfalso; rw [List.all_eq_true] at hw; have := hw p h; simp only [Bool.or_eq_true, decide_eq_true_eq, List.any_eq_true, beq_iff_eq, Array.mem_toList_iff] at this
        rcases this with hge | ⟨o, ho, hd⟩
        · omega
        · obtain ⟨j, hj⟩ := Array.getElem?_of_mem ho; have := hfree j o hj (by rw [hd, hpt]); have hlt := (Array.getElem?_eq_some_iff.1 hj).1; simp [Array.getD_eq_getD_getElem?, hlt] at this
  · have hlt := (Array.getElem?_eq_some_iff.1 hj).1; simp [Array.getD_eq_getD_getElem?, hlt] at hl
  · intro k2 i2 h2; obtain ⟨o, ho, _⟩ := phased_of hp h2; have hlt := (Array.getElem?_eq_some_iff.1 ho).1; simp [Array.getD_eq_getD_getElem?, hlt]
  · intro k2 i2 o2 t2 _ hlt; simp at hlt
end
end Go.Proofs.YtngkolcpbgibcaaGreatDoor
