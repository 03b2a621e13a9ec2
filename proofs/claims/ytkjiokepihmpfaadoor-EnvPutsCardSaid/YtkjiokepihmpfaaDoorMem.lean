/- Words for memory, used by all walks of this seat: a slice that reads as a list of cells, kept while only newer blocks are written. No condition. -/
import Derived.WalkKit
import Derived.WalkSpells
import Derived.WalkLawsBesides
import Derived.Outline
import Derived.Deep.LoopGhost
import Derived.Deep.QuietTactic
import Derived.BigQuiet
import Derived.Lib.Hide
import Derived.Laws.BytesArg
import Derived.Maps.AppendAt
import Derived.Deep.Draws
import Derived.Deep.AppendLies
import Derived.ScopeJumps
import Derived.Deep.DeepCutAuto
import Derived.Deep.RegionLaw
import Derived.WalkMore
set_option linter.unusedVariables false
set_option linter.unusedSimpArgs false
namespace Go.Proofs.YtkjiokepihmpfaaDoor
open Go.RowKit

/-- The n elements (of k cells each) that a slice at A has read as the cells xs; they lie below block B. -/
structure Rd (w : World) (B k : Nat) (A : Option Addr) (n : Nat) (xs : List Value) : Prop where
  len : xs.length = n * k
  at_ : 0 < n → ∃ a, A = some a ∧ a.block < B ∧ ∀ j u, xs[j]? = some u → w.cell? (a.add j) = some u

theorem add_block (a : Addr) (n : Nat) : (a.add n).block = a.block := by unfold Addr.add; split <;> rfl
theorem add_add (a : Addr) (i j : Nat) : (a.add i).add j = a.add (i + j) := by
  unfold Addr.add
  by_cases hi : i = 0 <;> by_cases hj : j = 0 <;> simp [hi, hj, Nat.add_assoc]

variable {w w' : World} {B B' k n : Nat} {A : Option Addr} {xs : List Value}

theorem Rd.nil (w : World) (B k : Nat) (A : Option Addr) : Rd w B k A 0 [] := ⟨by simp, fun h => absurd h (by omega)⟩

/-- What holds of every cell below B is kept. -/
theorem Rd.keep (h : Rd w B k A n xs) (hk : ∀ p : Addr, p.block < B → w'.cell? p = w.cell? p) : Rd w' B k A n xs := by
  refine ⟨h.len, fun hn => ?_⟩
  obtain ⟨a, e, hb, hc⟩ := h.at_ hn
  exact ⟨a, e, hb, fun j u hu => by rw [hk _ (by rw [add_block]; exact hb)]; exact hc j u hu⟩

theorem Rd.below (h : Rd w B k A n xs) (hb : Below B w w') : Rd w' B k A n xs := h.keep fun _ hp => hb.cell hp

theorem Rd.mono (h : Rd w B k A n xs) (hB : B ≤ B') : Rd w B' k A n xs := by
  refine ⟨h.len, fun hn => ?_⟩
  obtain ⟨a, e, hb, hc⟩ := h.at_ hn
  exact ⟨a, e, by omega, hc⟩

theorem Rd.belowMono (h : Rd w B k A n xs) (hb : Below B' w w') (hB : B ≤ B') : Rd w' B k A n xs := h.below (hb.mono hB)

/-- One element of one cell. -/
theorem Rd.cell (h : Rd w B 1 A n xs) {i : Nat} (hi : i < n) : ∃ a u, A = some a ∧ a.block < B ∧ xs[i]? = some u ∧ w.cell? (a.add i) = some u := by
  obtain ⟨a, e, hb, hc⟩ := h.at_ (by omega)
  have hl : i < xs.length := by have := h.len; omega
  exact ⟨a, xs[i], e, hb, List.getElem?_eq_getElem hl, hc i _ (List.getElem?_eq_getElem hl)⟩

/-- The cut 's[i:j]'. -/
theorem Rd.cut (h : Rd w B k A n xs) {i j cap : Nat} (hij : i ≤ j) (hj : j ≤ n) (hc : n ≤ cap) :
    Rd w B k (if cap = i then A else A.map (·.add (i * k))) (j - i) ((xs.drop (i * k)).take ((j - i) * k)) := by
  refine ⟨?_, fun hn => ?_⟩
  · rw [List.length_take, List.length_drop, h.len, ← Nat.sub_mul]
    exact Nat.min_eq_left (Nat.mul_le_mul_right _ (by omega))
  obtain ⟨a, rfl, hb, hcell⟩ := h.at_ (by omega)
  rw [if_neg (by omega)]
  refine ⟨a.add (i * k), rfl, by rw [add_block]; exact hb, fun m u hu => ?_⟩
  rw [add_add]
  refine hcell _ u ?_
  rw [List.getElem?_take] at hu
  split at hu
  · rw [← hu, List.getElem?_drop]
  · cases hu

/-- A row of the call's own, as a slice to read: its value's form. -/
theorem own_form {base : Nat} {e : TypeId} {v : Value} (h : w.ownsRow base e k v n xs) :
    ∃ A c, v = .slice A n c ∧ n ≤ c ∧ c ≤ maxLen ∧ Rd w w.heap.size k A n xs := by
  rcases h.2 with ⟨rfl, rfl⟩ | ⟨g, cap, cur, rfl, hb, hg, hnc, hm, hs, ht⟩
  · have : xs = [] := List.eq_nil_of_length_eq_zero (by simpa using h.1)
    subst this
    exact ⟨none, 0, rfl, Nat.le_refl _, by simp [maxLen], Rd.nil _ _ _ _⟩
  · exact ⟨_, cap, rfl, hnc, hm, h.1, fun hn => ⟨_, rfl, (Array.getElem?_eq_some_iff.1 hg).1, h.cells (g := g) rfl⟩⟩


/-- Block g is just the cells cs of type t, none frozen. -/
def Bk (w : World) (g : Nat) (t : TypeId) (cs : Array Value) : Prop := w.heap[g]? = some (.cells cs t (0, 0))
section
variable {g : Nat} {t t' : TypeId} {cs : Array Value} {v v' v'' : Value} {base : Nat} {w'' : World}
theorem Bk.lt (h : Bk w g t cs) : g < w.heap.size := by
  unfold Bk at h
  exact (Array.getElem?_eq_some_iff.1 h).1
theorem Bk.cell (h : Bk w g t cs) (i : Nat) : w.cell? ⟨g, i, none⟩ = cs[i]? := cell_of_row w g i cs t (0, 0) h
theorem Bk.frozen (h : Bk w g t cs) (i : Nat) : w.frozen? ⟨g, i, none⟩ = false := by
  unfold Bk at h
  simp [World.frozen?, h]
theorem Bk.below (h : Bk w g t cs) (hb : Below B w w') (hg : g < B) : Bk w' g t cs := by
  unfold Bk at *
  rw [hb.block g hg, h]
theorem Bk.new (w : World) (t : TypeId) (cs : Array Value) : Bk (w.alloc (.cells cs t)) w.heap.size t cs := heap_alloc_new w _
theorem Bk.alloc (h : Bk w g t cs) (o : Obj) : Bk (w.alloc o) g t cs := by
  have := h.lt
  unfold Bk at *
  rw [Below.heap_alloc w o g this, h]
theorem Bk.set_ (h : Bk w g t cs) (i : Nat) (u : Value) : Bk (w.setCell ⟨g, i, none⟩ u) g t (cs.setIfInBounds i u) := by
  unfold Bk at h ⊢
  simp [World.setCell, Array.getElem?_modify, h]

/-- From w to w' the row at v was appended to, in its place or in a new one; nothing else has turned. -/
structure Grew (w w' : World) (v v' : Value) : Prop where
  grown : w.grownBy w' v.ownBlock
  lies : v'.ownBlock = v.ownBlock ∨ ∃ g, v'.ownBlock = some g ∧ w.heap.size ≤ g

theorem Grew.refl (w : World) (v : Value) : Grew w w v v := ⟨World.grownBy.refl w _, .inl rfl⟩
theorem Grew.trans (h : Grew w w' v v') (h' : Grew w' w'' v' v'') : Grew w w'' v v'' := by
  have hs := h.grown.size
  refine ⟨⟨h'.grown.os.trans h.grown.os, h'.grown.tape.trans h.grown.tape, h'.grown.output.trans h.grown.output, Nat.le_trans hs h'.grown.size, fun k hk hne => ?_⟩, ?_⟩
  · refine (h'.grown.block k (by omega) fun e => ?_).trans (h.grown.block k hk hne)
    rcases h.lies with hl | ⟨g, hl, hg⟩
    · exact hne (e.trans hl)
    · rw [hl] at e
      injection e with e
      omega
  · rcases h'.lies with hl | ⟨g, hl, hg⟩
    · rcases h.lies with hm | ⟨g, hm, hg⟩
      · exact .inl (hl.trans hm)
      · exact .inr ⟨g, hl.trans hm, hg⟩
    · exact .inr ⟨g, hl, by omega⟩
theorem Grew.of_alloc {o : Obj} (h : Grew (w.alloc o) w' v v') : Grew w w' v v' := by
  have hs : (w.alloc o).heap.size = w.heap.size + 1 := by simp
  have hg := h.grown.size
  refine ⟨⟨h.grown.os, h.grown.tape, h.grown.output, by omega, fun k hk hne => (h.grown.block k (by omega) hne).trans (Below.heap_alloc w o k hk)⟩, ?_⟩
  rcases h.lies with hl | ⟨g, hl, hg⟩
  · exact .inl hl
  · exact .inr ⟨g, hl, by omega⟩
theorem Grew.of_same {B : Nat} (h : Grew w w' v v') (hb : Below B w' w'') (hB : w'.heap.size ≤ B) : Grew w w'' v v' :=
  ⟨⟨hb.os.trans h.grown.os, hb.tape.trans h.grown.tape, hb.output.trans h.grown.output, Nat.le_trans h.grown.size hb.size, fun k hk hne => (hb.block k (by have := h.grown.size; omega)).trans (h.grown.block k hk hne)⟩, h.lies⟩
theorem Grew.after {B : Nat} (hb : Below B w w') (hB : w.heap.size ≤ B) (h : Grew w' w'' v v') : Grew w w'' v v' := by
  have hs := hb.size
  refine ⟨⟨h.grown.os.trans hb.os, h.grown.tape.trans hb.tape, h.grown.output.trans hb.output, Nat.le_trans hs h.grown.size, fun k hk hne => (h.grown.block k (by omega) hne).trans (hb.block k (by omega))⟩, ?_⟩
  rcases h.lies with hl | ⟨g, hl, hg⟩
  · exact .inl hl
  · exact .inr ⟨g, hl, by omega⟩
theorem Grew.below (h : Grew w w' v v') {e : TypeId} (ho : w.ownsRow base e k v n xs) (hb : base ≤ w.heap.size) : Below base w w' :=
  (Below.refl _ _).grown h.grown hb fun i hi => (ho.lt i hi).1
theorem Grew.bk (h : Grew w w' v v') {e : TypeId} (ho : w.ownsRow base e k v n xs) (hk : Bk w g t cs) (hne : e ≠ t) : Bk w' g t cs := by
  have hlt := hk.lt
  unfold Bk at *
  rw [h.grown.block g hlt, hk]
  intro hh
  rcases ho.2 with ⟨rfl, _⟩ | ⟨g', cap, cur, rfl, _, hg, _⟩
  · simp [Value.ownBlock] at hh
  · simp only [Value.ownBlock, Option.some.injEq] at hh
    subst hh
    rw [hk] at hg
    injection hg with hg
    injection hg with _ ht
    exact hne ht.symm
end

/-- From w to w' only blocks of S, and new ones, have turned. -/
structure Keep (S : Nat → Prop) (w w' : World) : Prop where
  os : w'.os = w.os
  tape : w'.tape = w.tape
  output : w'.output = w.output
  size : w.heap.size ≤ w'.heap.size
  block : ∀ i, i < w.heap.size → ¬ S i → w'.heap[i]? = w.heap[i]?
section
variable {S T : Nat → Prop} {w'' : World}
theorem Keep.refl (S : Nat → Prop) (w : World) : Keep S w w := ⟨rfl, rfl, rfl, Nat.le_refl _, fun _ _ _ => rfl⟩
theorem Keep.trans (h : Keep S w w') (h' : Keep T w' w'') (hT : ∀ i, i < w.heap.size → T i → S i) : Keep S w w'' :=
  ⟨h'.os.trans h.os, h'.tape.trans h.tape, h'.output.trans h.output, Nat.le_trans h.size h'.size, fun i hi hn =>
    (h'.block i (Nat.lt_of_lt_of_le hi h.size) fun ht => hn (hT i hi ht)).trans (h.block i hi hn)⟩
theorem Keep.mono (h : Keep S w w') (hS : ∀ i, i < w.heap.size → S i → T i) : Keep T w w' := ⟨h.os, h.tape, h.output, h.size, fun i hi hn => h.block i hi fun hs => hn (hS i hi hs)⟩
theorem Keep.of_below {B : Nat} (hb : Below B w w') (hS : ∀ i, i < w.heap.size → B ≤ i → S i) : Keep S w w' :=
  ⟨hb.os, hb.tape, hb.output, hb.size, fun i hi hn => hb.block i (by
    rcases Nat.lt_or_ge i B with h | h
    · exact h
    · exact absurd (hS i hi h) hn)⟩
theorem Keep.below {B : Nat} (h : Keep S w w') (hB : B ≤ w.heap.size) (hS : ∀ i, i < B → ¬ S i) : Below B w w' :=
  ⟨h.os, h.tape, h.output, h.size, fun i hi => h.block i (by omega) (hS i hi)⟩
theorem Keep.of_grew {v v' : Value} (h : Grew w w' v v') (hS : ∀ i, some i = v.ownBlock → S i) : Keep S w w' :=
  ⟨h.grown.os, h.grown.tape, h.grown.output, h.grown.size, fun i hi hn => h.grown.block i hi fun e => hn (hS i e)⟩
theorem Keep.drew (h : Keep S w w') : Keep S w w'.drew := ⟨h.os, h.tape, h.output, h.size, h.block⟩
theorem Keep.alloc (h : Keep S w w') (o : Obj) : Keep S w (w'.alloc o) :=
  h.trans (T := fun _ => False) (Keep.of_below ((Below.refl w'.heap.size w').alloc (Nat.le_refl _) o) fun i hi hb => by omega) fun _ _ hf => hf.elim
theorem Keep.setCell (h : Keep S w w') {p : Addr} (hp : p.block < w.heap.size → S p.block) (u : Value) : Keep S w (w'.setCell p u) :=
  ⟨h.os, h.tape, h.output, by simpa [World.setCell] using h.size, fun i hi hn => (Below.heap_setCell w' p u i (by
    rintro rfl
    exact hn (hp hi))).trans (h.block i hi hn)⟩
theorem Keep.bk {g : Nat} {t : TypeId} {cs : Array Value} (h : Keep S w w') (hk : Bk w g t cs) (hS : ¬ S g) : Bk w' g t cs := by
  have := hk.lt
  unfold Bk at *
  rw [h.block g this hS, hk]
theorem Keep.own {base : Nat} {e : TypeId} {v : Value} (h : Keep S w w') (ho : w.ownsRow base e k v n xs) (hS : ∀ i, v.ownBlock = some i → ¬ S i) : w'.ownsRow base e k v n xs := by
  refine ⟨ho.1, ?_⟩
  rcases ho.2 with h2 | ⟨g, cap, cur, rfl, hg, hh, r⟩
  · exact .inl h2
  · exact .inr ⟨g, cap, cur, rfl, hg, by rw [h.block g (Array.getElem?_eq_some_iff.1 hh).1 (hS g rfl)]; exact hh, r⟩
end
/-- An own row's block is of the row's type. -/
theorem own_ne {base g : Nat} {e t : TypeId} {v : Value} {cs : Array Value} (ho : w.ownsRow base e k v n xs) (hk : Bk w g t cs) (hne : e ≠ t) : v.ownBlock ≠ some g := by
  rcases ho.2 with ⟨rfl, _⟩ | ⟨g', cap, cur, rfl, _, hg, _⟩
  · simp [Value.ownBlock]
  · intro hh
    simp only [Value.ownBlock, Option.some.injEq] at hh
    subst hh
    unfold Bk at hk
    rw [hk] at hg
    injection hg with hg
    injection hg with _ ht
    exact hne ht.symm
theorem own_own_ne {base base' : Nat} {e t : TypeId} {v v' : Value} {k' n' : Nat} {ys : List Value} (ho : w.ownsRow base e k v n xs) (ho' : w.ownsRow base' t k' v' n' ys) (hne : e ≠ t) : ∀ i, v.ownBlock = some i → v'.ownBlock ≠ some i := by
  intro i hi
  rcases ho.2 with ⟨rfl, _⟩ | ⟨g, cap, cur, rfl, _, hg, _⟩
  · simp [Value.ownBlock] at hi
  · simp only [Value.ownBlock, Option.some.injEq] at hi
    subst hi
    exact own_ne ho' (show Bk w g e cur from hg) (Ne.symm hne)

/-- What the laws on append ask of the type of a slice, in one word. -/
structure ElemRow (P : Program) (t e : TypeId) (z : Value) (size bytes : Nat) : Prop where
  under : P.underlying t = some (.slice e)
  info : ∃ i, P.info? e = some i ∧ i.zero = some z ∧ i.size = size ∧ i.bytes = bytes
  zero : z.cells.size = size
  pos : 0 < size

section
variable {P : Program} {base t ty e size bytes m c : Nat} {z v : Value} {news : List Value}

/-- append onto a row of the call's own; what is appended is a slice that reads as news, nil or not. -/
theorem run_app (E : ElemRow P t e z size bytes) (hown : w.ownsRow base e size v n xs) (hr : Rd w B size A m news) (h1 : ∀ u ∈ news, u.oneCell' = true)
    (h63 : n + m ≤ maxLen) (hbytes : (n + m) * bytes ≤ 140737488355328) (hbase : base ≤ w.heap.size) :
    ∃ v' w', (Builtin.append_ #[t, t] ty #[v, .slice A m c]).run P w = .ok v' w' ∧ w'.ownsRow base e size v' (n + m) (xs ++ news) ∧ w.grownBy w' v.ownBlock ∧
      (v'.ownBlock = v.ownBlock ∨ v'.ownBlock = some w.heap.size) := by
  obtain ⟨i, hi, hz, hs, hb⟩ := E.info
  cases A with
  | none =>
    have hm : m = 0 := by
      rcases Nat.eq_zero_or_pos m with h | h
      · exact h
      · obtain ⟨a, ha, _⟩ := hr.at_ h; cases ha
    subst hm
    have hn : news = [] := List.eq_nil_of_length_eq_zero (by simpa using hr.len)
    subst hn
    refine ⟨v, w, ?_, by simpa using hown, World.grownBy.refl w _, .inl rfl⟩
    rcases hown.2 with ⟨rfl, rfl⟩ | ⟨g, cap, cur, rfl, _, _, hnc, _⟩
    · simp [Builtin.append_, run_underlying E.under, sizeOf, typeInfo, hi, Builtin.lenOf, Builtin.firstCells]
    · simp [Builtin.append_, run_underlying E.under, sizeOf, typeInfo, hi, Builtin.lenOf, Builtin.firstCells, hnc, storeCells]
  | some a =>
    have hcells : ∀ j u, news[j]? = some u → w.cell? (a.add j) = some u := by
      intro j u hu
      have hl : j < news.length := (List.getElem?_eq_some_iff.1 hu).1
      have hm : 0 < m := by
        rcases Nat.eq_zero_or_pos m with h | h
        · subst h; have := hr.len; omega
        · exact h
      obtain ⟨a', ha, _, hc⟩ := hr.at_ hm
      injection ha with ha
      subst ha
      exact hc j u hu
    obtain ⟨v', w', h, h2, h3, _, h5⟩ := run_append_own_at (P := P) w base t ty e i z size bytes E.under hi hz hs hb E.zero E.pos v n xs hown a m c news hr.len hcells h1 h63 hbytes hbase
    exact ⟨v', w', h, h2, h3, h5⟩

theorem wp_app {o : Oper} {a : Act} {K : Act → World → Prop} {Q : Exit → Act → World → Prop} (E : ElemRow P t e z size bytes) (s x : Operand)
    (ho : o.op = .call { callee := .builtin .append, args := #[s, x], argTypes := #[t, t] })
    (hs : a.eval s = v) (hx : a.eval x = .slice A m c) (hown : w.ownsRow base e size v n xs) (hr : Rd w B size A m news) (h1 : ∀ u ∈ news, u.oneCell' = true)
    (h63 : n + m ≤ maxLen) (hbytes : (n + m) * bytes ≤ 140737488355328) (hbase : base ≤ w.heap.size)
    (h : ∀ v' w', w'.ownsRow base e size v' (n + m) (xs ++ news) → Grew w w' v v' → Below base w w' → K (a.put o.dst v') w') :
    o.wp P a w K Q := by
  obtain ⟨v', w', hrun, h2, h3, h4⟩ := run_app (ty := o.type) (c := c) E hown hr h1 h63 hbytes hbase
  unfold Oper.wp execOp
  simp only [ho, resolve, invoke, builtin, Sem.run_bind, Sem.run_pure, Result.andThen_ok, List.map_toArray, List.map_cons, List.map_nil, hs, hx, hrun]
  exact h v' w' h2 ⟨h3, h4.imp id fun h => ⟨_, h, Nat.le_refl _⟩⟩ ((Below.refl _ _).grown h3 hbase fun k hk => (hown.lt k hk).1)

/-- At the operation, for the walk. -/
theorem wpList_app {ops : Array Oper} {rest : List Oper} {o : Oper} {a : Act} {Q : Exit → Act → World → Prop} (E : ElemRow P t e z size bytes) (hgd : o.guard = none) (s x : Operand)
    (ho : o.op = .call { callee := .builtin .append, args := #[s, x], argTypes := #[t, t] })
    (hs : a.eval s = v) (hx : a.eval x = .slice A m c) (hown : w.ownsRow base e size v n xs) (hr : Rd w B size A m news) (h1 : ∀ u ∈ news, u.oneCell' = true)
    (h63 : n + m ≤ maxLen) (hbytes : (n + m) * bytes ≤ 140737488355328) (hbase : base ≤ w.heap.size)
    (h : ∀ v' w', w'.ownsRow base e size v' (n + m) (xs ++ news) → Grew w w' v v' → Below base w w' → wpList P ops Q rest (a.put o.dst v') w') :
    wpList P ops Q (o :: rest) a w :=
  wpList_plain hgd fun _ hK => wp_app E s x ho hs hx hown hr h1 h63 hbytes hbase fun v' w' h2 h3 h5 => hK _ _ (h v' w' h2 h3 h5)
end

/-- As one step of a region that draws its order. -/
theorem step_app {ops : Array Oper} {o : Oper} {a : Act} {K : Act → World → Prop} {Q : Exit → Act → World → Prop} {G : Prop} {P : Program} {base t e size bytes m c : Nat} {z v : Value} {news : List Value}
    (E : ElemRow P t e z size bytes) (hgd : o.guard = none) (s x : Operand)
    (ho : o.op = .call { callee := .builtin .append, args := #[s, x], argTypes := #[t, t] })
    (hs : a.eval s = v) (hx : a.eval x = .slice A m c) (hown : w.ownsRow base e size v n xs) (hr : Rd w B size A m news) (h1 : ∀ u ∈ news, u.oneCell' = true)
    (h63 : n + m ≤ maxLen) (hbytes : (n + m) * bytes ≤ 140737488355328) (hbase : base ≤ w.heap.size)
    (h : ∀ v' w', w'.ownsRow base e size v' (n + m) (xs ++ news) → Grew w w' v v' → Below base w w' → K (a.put o.dst v') w') :
    if Region.wanted o (yielded ops a.tmps) = true then Oper.wp P o a w K Q else G := by
  have hw : Region.wanted o (yielded ops a.tmps) = true := by simp [Region.wanted, hgd]
  rw [if_pos hw]
  exact wp_app E s x ho hs hx hown hr h1 h63 hbytes hbase h

/-- The cells of a block that was just made. -/
theorem Rd.fresh (w : World) (t : TypeId) (k n : Nat) (cs : List Value) (h : cs.length = n * k) : Rd (w.alloc (.cells cs.toArray t)) (w.heap.size + 1) k (some ⟨w.heap.size, 0, none⟩) n cs := by
  refine ⟨h, fun _ => ⟨_, rfl, Nat.lt_succ_self _, fun j u hu => ?_⟩⟩
  have hadd : (⟨w.heap.size, 0, none⟩ : Addr).add j = ⟨w.heap.size, j, none⟩ := by unfold Addr.add; split <;> simp_all
  rw [hadd, cell_of_row _ w.heap.size j cs.toArray t (0, 0) (heap_alloc_new w _)]
  simpa using hu

/-! A scope whose gotos go forward to one label: what is done from the label on is walked at each goto. -/
section
variable {P : Program} {a : Act} {Q : Exit → Act → World → Prop}

theorem jump_normal (l : Nat) (J : Act → World → Prop) : Exit.jump l J Q .normal a w = Q .normal a w := rfl
theorem jump_ret (l : Nat) (J : Act → World → Prop) : Exit.jump l J Q .ret a w = Q .ret a w := rfl
theorem jump_exit (l i : Nat) (J : Act → World → Prop) : Exit.jump l J Q (.exit i) a w = Q (.exit i) a w := rfl

theorem wp_scope_fwd {c rest : Code} (l : Nat) (hf : findLabel c l = some rest)
    (h : c.wp P (Exit.jump l (fun a w => rest.wp P (Exit.noGoto Q) a w) Q) a w) : (Code.scope c).wp P Q a w := by
  refine wp_scope_jumps l (fun a w => rest.wp P (Exit.noGoto Q) a w) (fun _ _ => 0) hf h fun a w hJ => wp_mono hJ ?_
  intro e a' w' hq
  cases e with
  | goto l' => exact hq.elim
  | normal => exact hq
  | exit i => exact hq
  | ret => exact hq
  | panic ch => exact hq
  | outgrown => exact hq
end

end Go.Proofs.YtkjiokepihmpfaaDoor
