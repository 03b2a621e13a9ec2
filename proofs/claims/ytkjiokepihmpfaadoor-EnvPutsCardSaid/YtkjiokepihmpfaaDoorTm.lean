/- Trees in memory: a formula's eighteen cells, its row of Kids; a stack of rows. No condition. -/
import Derived.Test.YtkjiokepihmpfaaDoorTr
import Derived.Test.YtkjiokepihmpfaaDoorForm
import Derived.Test.YtkjiokepihmpfaaDoorQ0
set_option linter.unusedVariables false
set_option linter.unusedSimpArgs false
namespace Go.Proofs.YtkjiokepihmpfaaDoor
open Go.RowKit

/-- A formula's cells, but for its Kids' one. -/
def pc (p : Pay) : List Value := [.int .i64 p.kind, .int .i64 p.vk, .int .i64 p.vm, .int .i64 p.vs, .string p.vt, .bool p.vb, .int .i64 p.ve, .int .i64 p.r1, .int .i64 p.c1, .bool p.x1, .bool p.y1, .int .i64 p.r2, .int .i64 p.c2, .bool p.x2, .bool p.y2, .int .i64 p.sheet, .int .i64 p.op]
def ec (p : Pay) (k : Value) : List Value := pc p ++ [k]
/-- A formula as a value. -/
def ev (p : Pay) (k : Value) : Value := .agg #[.int .i64 p.kind, .int .i64 p.vk, .int .i64 p.vm, .int .i64 p.vs, .string p.vt, .bool p.vb, .int .i64 p.ve, .int .i64 p.r1, .int .i64 p.c1, .bool p.x1, .bool p.y1, .int .i64 p.r2, .int .i64 p.c2, .bool p.x2, .bool p.y2, .int .i64 p.sheet, .int .i64 p.op, k]

mutual
def LiT (w : World) (F : Nat → Prop) : Tr → List Value → Prop
  | .mk p ks, cs => ∃ A c, cs = ec p (.slice A ks.length c) ∧ ks.length ≤ c ∧ (0 < ks.length → ∃ a, A = some a ∧ F a.block ∧ LiL w F ks a 0)
def LiL (w : World) (F : Nat → Prop) : List Tr → Addr → Nat → Prop
  | [], _, _ => True
  | t :: ts, a, i => (∃ cs, LiT w F t cs ∧ ∀ (j : Nat) (u : Value), cs[j]? = some u → w.cell? (a.add (i * 18 + j)) = some u) ∧ LiL w F ts a (i + 1)
end
theorem liT_len {w : World} {F : Nat → Prop} : ∀ {t : Tr} {cs : List Value}, LiT w F t cs → cs.length = 18
  | .mk p ks, cs, h => by
    simp only [LiT] at h
    obtain ⟨A, c, rfl, _⟩ := h
    rfl
mutual
theorem liT_move {w w' : World} {F F' : Nat → Prop} (hm : Move w F w' F') : ∀ {t : Tr} {cs : List Value}, LiT w F t cs → LiT w' F' t cs
  | .mk p ks, cs, h => by
    simp only [LiT] at h ⊢
    obtain ⟨A, c, h1, h2, h3⟩ := h
    refine ⟨A, c, h1, h2, fun hn => ?_⟩
    obtain ⟨a, e, hb, hl⟩ := h3 hn
    exact ⟨a, e, (hm _ hb).1, liL_move hm hb hl⟩
theorem liL_move {w w' : World} {F F' : Nat → Prop} (hm : Move w F w' F') : ∀ {ts : List Tr} {a : Addr} {i : Nat}, F a.block → LiL w F ts a i → LiL w' F' ts a i
  | [], _, _, _, _ => by simp [LiL]
  | t :: ts, a, i, hb, h => by
    simp only [LiL] at h ⊢
    obtain ⟨⟨cs, h1, h2⟩, h3⟩ := h
    exact ⟨⟨cs, liT_move hm h1, fun j u hu => by rw [hm.cell (by rw [add_block]; exact hb)]; exact h2 j u hu⟩, liL_move hm hb h3⟩
end
theorem liL_get {w : World} {F : Nat → Prop} : ∀ {ts : List Tr} {a : Addr} {i : Nat}, LiL w F ts a i ↔ ∀ (k : Nat) (t : Tr), ts[k]? = some t → ∃ cs, LiT w F t cs ∧ ∀ (j : Nat) (u : Value), cs[j]? = some u → w.cell? (a.add ((i + k) * 18 + j)) = some u
  | [], a, i => by simp [LiL]
  | t :: ts, a, i => by
    simp only [LiL, liL_get (ts := ts)]
    constructor
    · rintro ⟨h1, h2⟩ k x hk
      cases k with
      | zero => simp only [List.getElem?_cons_zero, Option.some.injEq] at hk; subst hk; simpa using h1
      | succ k =>
        have := h2 k x (by simpa using hk)
        rwa [show i + 1 + k = i + (k + 1) by omega] at this
    · intro h
      refine ⟨by simpa using h 0 t rfl, fun k x hk => ?_⟩
      have := h (k + 1) x (by simpa using hk)
      rwa [show i + (k + 1) = i + 1 + k by omega] at this

/-- A formula. -/
def treeF : Form Tr where
  k := 18
  R w F cs t := LiT w F t cs
  len h := liT_len h
  move hm h := liT_move hm h

theorem tree_mk {w : World} {F : Nat → Prop} {p : Pay} {ks : List Tr} {cs : List Value} : LiT w F (.mk p ks) cs ↔ ∃ A c, cs = ec p (.slice A ks.length c) ∧ ks.length ≤ c ∧ RowF treeF w F A ks.length ks := by
  simp only [LiT]
  constructor
  · rintro ⟨A, c, h1, h2, h3⟩
    refine ⟨A, c, h1, h2, rfl, fun hn => ?_⟩
    obtain ⟨a, e, hb, hl⟩ := h3 hn
    refine ⟨a, e, hb, fun i t hi => ?_⟩
    obtain ⟨cs', h4, h5⟩ := liL_get.1 hl i t hi
    exact ⟨cs', h4, fun j u hu => by have := h5 j u hu; rwa [Nat.zero_add] at this⟩
  · rintro ⟨A, c, h1, h2, h3⟩
    refine ⟨A, c, h1, h2, fun hn => ?_⟩
    obtain ⟨a, e, hb, hl⟩ := h3.at_ hn
    refine ⟨a, e, hb, liL_get.2 fun i t hi => ?_⟩
    obtain ⟨cs', h4, h5⟩ := hl i t hi
    exact ⟨cs', h4, fun j u hu => by have := h5 j u hu; rw [Nat.zero_add]; exact this⟩

/-- A row of a call's own that is cut shorter. -/
theorem own_cut {W : World} {base n m c : Nat} {e : TypeId} {A : Option Addr} {xs : List Value} (h : W.ownsRow base e 1 (.slice A n c) n xs) (hm : m ≤ n) : W.ownsRow base e 1 (.slice A m c) m (xs.take m) := by
  refine ⟨by rw [List.length_take, h.1]; omega, ?_⟩
  rcases h.2 with ⟨h1, h2⟩ | ⟨g, cap, cur, h1, hb, hg, hnc, hm', hs, ht⟩
  · subst h2
    obtain rfl : m = 0 := by omega
    injection h1 with hA _ hC
    subst hA hC
    exact .inl ⟨rfl, rfl⟩
  · injection h1 with hA _ hC
    subst hA hC
    exact .inr ⟨g, c, cur, rfl, hb, hg, by omega, hm', hs, by rw [← ht, List.take_take]; congr 1; omega⟩
/-- A row of a call's own, one cell of it stored. -/
theorem own_put {W : World} {base n c g j : Nat} {e : TypeId} {u : Value} {xs : List Value} (h : W.ownsRow base e 1 (.slice (some ⟨g, 0, none⟩) n c) n xs) : (W.setCell ⟨g, j, none⟩ u).ownsRow base e 1 (.slice (some ⟨g, 0, none⟩) n c) n (xs.set j u) := by
  refine ⟨by rw [List.length_set]; exact h.1, ?_⟩
  rcases h.2 with ⟨h1, h2⟩ | ⟨g', cap, cur, h1, hb, hg, hnc, hm', hs, ht⟩
  · cases h1
  · injection h1 with hA _ hC
    injection hA with hA
    injection hA with hA
    subst hA hC
    have hk : Bk W g e cur := hg
    refine .inr ⟨g, c, _, rfl, hb, hk.set_ j u, hnc, hm', by simpa using hs, ?_⟩
    rw [← ht, Array.toList_setIfInBounds, ← List.take_set]

/-- Headers that read as rows of formulas. -/
def Hdr (W : World) (B : Nat) (xs : List Value) (K : List (List Tr)) : Prop := ∀ (i : Nat) (ts : List Tr), K[i]? = some ts → ∃ A c, xs[i]? = some (.slice A ts.length c) ∧ ts.length ≤ c ∧ RowF treeF W (· < B) A ts.length ts
/-- A stack: its box, its row, the lowest first. -/
structure Stk (W : World) (B base g : Nat) (v : Value) (K : List (List Tr)) : Prop where
  box : Bk W g 130 #[v]
  row : ∃ xs, W.ownsRow base 26 1 v K.length xs ∧ Hdr W B xs K

theorem Hdr.below {W W' : World} {B B' : Nat} {xs : List Value} {K : List (List Tr)} (h : Hdr W B xs K) (hb : Below B' W W') (hB : B ≤ B') : Hdr W' B xs K := fun i ts hi => by
  obtain ⟨A, c, h1, h2, h3⟩ := h i ts hi
  exact ⟨A, c, h1, h2, h3.below hb hB⟩
theorem Hdr.take {W : World} {B : Nat} {xs : List Value} {K : List (List Tr)} (h : Hdr W B xs K) (m : Nat) : Hdr W B (xs.take m) (K.take m) := fun i ts hi => by
  rw [List.getElem?_take] at hi
  split at hi
  · obtain ⟨A, c, h1, h2, h3⟩ := h i ts hi
    exact ⟨A, c, by rw [List.getElem?_take, if_pos (by assumption)]; exact h1, h2, h3⟩
  · cases hi
theorem Hdr.set {W : World} {B j : Nat} {xs : List Value} {K : List (List Tr)} (h : Hdr W B xs K) {A : Option Addr} {c : Nat} {ts : List Tr} (hl : xs.length = K.length) (hc : ts.length ≤ c) (hr : RowF treeF W (· < B) A ts.length ts) : Hdr W B (xs.set j (.slice A ts.length c)) (K.set j ts) := fun i us hi => by
  rw [List.getElem?_set] at hi
  split at hi
  · subst_vars
    split at hi
    · injection hi with hi
      subst hi
      exact ⟨A, c, by rw [List.getElem?_set_self (by omega)], hc, hr⟩
    · cases hi
  · obtain ⟨A', c', h1, h2, h3⟩ := h i us hi
    exact ⟨A', c', by rw [List.getElem?_set_ne (by assumption)]; exact h1, h2, h3⟩
theorem Hdr.snoc {W : World} {B : Nat} {xs : List Value} {K : List (List Tr)} (h : Hdr W B xs K) {A : Option Addr} {c : Nat} {ts : List Tr} (hl : xs.length = K.length) (hc : ts.length ≤ c) (hr : RowF treeF W (· < B) A ts.length ts) : Hdr W B (xs ++ [.slice A ts.length c]) (K ++ [ts]) := fun i us hi => by
  rcases Nat.lt_trichotomy i K.length with h1 | h1 | h1
  · rw [List.getElem?_append_left h1] at hi
    obtain ⟨A', c', h1', h2, h3⟩ := h i us hi
    exact ⟨A', c', by rw [List.getElem?_append_left (by omega)]; exact h1', h2, h3⟩
  · subst h1
    simp at hi
    subst hi
    exact ⟨A, c, by rw [← hl]; simp, hc, hr⟩
  · rw [List.getElem?_eq_none (by simp; omega)] at hi
    cases hi
theorem Stk.len {W : World} {B base g : Nat} {v : Value} {K : List (List Tr)} (h : Stk W B base g v K) : g < W.heap.size := h.box.lt
theorem Stk.below {W W' : World} {B base g : Nat} {v : Value} {K : List (List Tr)} (h : Stk W B base g v K) (hb : Below W.heap.size W W') (hB : B ≤ W.heap.size) : Stk W' B base g v K := by
  obtain ⟨xs, h1, h2⟩ := h.row
  exact ⟨h.box.below hb h.box.lt, xs, (Keep.of_below (S := fun i => W.heap.size ≤ i) hb fun i _ h => h).own h1 fun i hi hh => by have := (h1.lt i hi).2; omega, h2.below hb hB⟩
theorem Stk.keep {W W' : World} {B base g : Nat} {v : Value} {K : List (List Tr)} {S : Nat → Prop} (h : Stk W B base g v K) (hk : Keep S W W') (hg : ¬ S g) (hv : ∀ i, v.ownBlock = some i → ¬ S i) (hS : ∀ i, i < B → ¬ S i) (hB : B ≤ W.heap.size) : Stk W' B base g v K := by
  obtain ⟨xs, h1, h2⟩ := h.row
  exact ⟨hk.bk h.box hg, xs, hk.own h1 hv, h2.below (hk.below (B := B) hB hS) (Nat.le_refl _)⟩
theorem Stk.ne {W : World} {B base g : Nat} {v : Value} {K : List (List Tr)} (h : Stk W B base g v K) : v.ownBlock ≠ some g := by
  obtain ⟨xs, h1, h2⟩ := h.row
  exact own_ne h1 h.box (by decide)
end Go.Proofs.YtkjiokepihmpfaaDoor
