/- Trees, plainly: how deep, how many, their places; what is left of them on a stack. No program, no condition. -/
/- What holds behind one, two, three blocks made; what a cell may be. No condition. -/
/- Trees in memory: a formula's eighteen cells, its row of Kids; a stack of rows. No condition. -/
/- dec.Check, dec.Int by their contracts. No condition. -/
import Derived.Test.YtlaiocdnddnnaaaGreatDoorSettle
import Derived.Test.YtlaiocdnddnnaaaGreatDoorProg
import Derived.Test.YtlaiocdnddnnaaaGreatDoorArg
import Derived.RegionTactic
import Derived.BigRegion
set_option linter.unusedVariables false
set_option linter.unusedSimpArgs false
namespace Go.Proofs.YtlaiocdnddnnaaaGreatDoor

/-- What a formula has, but for its Kids. -/
structure Pay where
  kind : Int
  vk : Int
  vm : Int
  vs : Int
  vt : ByteArray
  vb : Bool
  ve : Int
  r1 : Int
  c1 : Int
  x1 : Bool
  y1 : Bool
  r2 : Int
  c2 : Int
  x2 : Bool
  y2 : Bool
  sheet : Int
  op : Int

inductive Tr where
  | mk (p : Pay) (ks : List Tr)

namespace Tr
def pay : Tr → Pay
  | mk p _ => p
def kids : Tr → List Tr
  | mk _ ks => ks
end Tr

mutual
def cntT : Tr → Nat
  | .mk _ ks => cntL ks + 1
def cntL : List Tr → Nat
  | [] => 0
  | t :: ts => cntT t + cntL ts
end
mutual
def dpT : Tr → Nat
  | .mk _ ks => dpL ks + 1
def dpL : List Tr → Nat
  | [] => 0
  | t :: ts => max (dpT t) (dpL ts)
end
mutual
def ndT : Tr → List (Pay × Nat)
  | .mk p ks => (p, ks.length) :: ndL ks
def ndL : List Tr → List (Pay × Nat)
  | [] => []
  | t :: ts => ndT t ++ ndL ts
end
/-- Does it stand for places or a Name? -/
def leafB (p : Pay) : Bool := decide (2 ≤ p.kind ∧ p.kind ≤ 6)
mutual
def rfT : Tr → List Pay
  | .mk p ks => if leafB p = true then [p] else rfL ks
def rfL : List Tr → List Pay
  | [] => []
  | t :: ts => rfT t ++ rfL ts
end

mutual
theorem dp_cntT : ∀ t : Tr, dpT t ≤ cntT t
  | .mk _ ks => by
    have := dp_cntL ks
    simp only [dpT, cntT]
    omega
theorem dp_cntL : ∀ l : List Tr, dpL l ≤ cntL l
  | [] => Nat.le_refl _
  | t :: ts => by
    have h1 := dp_cntT t
    have h2 := dp_cntL ts
    simp only [dpL, cntL]
    omega
end
mutual
theorem nd_lenT : ∀ t : Tr, (ndT t).length = cntT t
  | .mk _ ks => by
    have := nd_lenL ks
    simp only [ndT, cntT, List.length_cons]
    omega
theorem nd_lenL : ∀ l : List Tr, (ndL l).length = cntL l
  | [] => rfl
  | t :: ts => by
    have h1 := nd_lenT t
    have h2 := nd_lenL ts
    simp only [ndL, cntL, List.length_append]
    omega
end
theorem cnt_pos (t : Tr) : 1 ≤ cntT t := by cases t; simp [cntT]
theorem dp_pos (t : Tr) : 1 ≤ dpT t := by cases t; simp [dpT]
theorem cnt_len : ∀ l : List Tr, l.length ≤ cntL l
  | [] => Nat.le_refl _
  | t :: ts => by
    have h1 := cnt_pos t
    have h2 := cnt_len ts
    simp only [cntL, List.length_cons]
    omega
theorem cnt_app : ∀ l m : List Tr, cntL (l ++ m) = cntL l + cntL m
  | [], m => by simp [cntL]
  | t :: l, m => by simp only [List.cons_append, cntL, cnt_app l m]; omega
theorem dp_app : ∀ l m : List Tr, dpL (l ++ m) = max (dpL l) (dpL m)
  | [], m => by simp [dpL]
  | t :: l, m => by simp only [List.cons_append, dpL, dp_app l m]; omega
theorem rf_app : ∀ l m : List Tr, rfL (l ++ m) = rfL l ++ rfL m
  | [], m => by simp [rfL]
  | t :: l, m => by simp only [List.cons_append, rfL, rf_app l m, List.append_assoc]
theorem nd_app : ∀ l m : List Tr, ndL (l ++ m) = ndL l ++ ndL m
  | [], m => by simp [ndL]
  | t :: l, m => by simp only [List.cons_append, ndL, nd_app l m, List.append_assoc]
theorem cnt_mem {t : Tr} : ∀ {l : List Tr}, t ∈ l → cntT t ≤ cntL l
  | x :: l, h => by
    simp only [cntL]
    rcases List.mem_cons.1 h with rfl | h
    · omega
    · have := cnt_mem h; omega
theorem dp_mem {t : Tr} : ∀ {l : List Tr}, t ∈ l → dpT t ≤ dpL l
  | x :: l, h => by
    simp only [dpL]
    rcases List.mem_cons.1 h with rfl | h
    · omega
    · have := dp_mem h; omega
theorem nd_mem {t : Tr} {q : Pay × Nat} (hq : q ∈ ndT t) : ∀ {l : List Tr}, t ∈ l → q ∈ ndL l
  | x :: l, h => by
    simp only [ndL, List.mem_append]
    rcases List.mem_cons.1 h with rfl | h
    · exact .inl hq
    · exact .inr (nd_mem hq h)
theorem rf_leafs : ∀ (n : Nat) (l : List Tr), cntL l ≤ n → ∀ p ∈ rfL l, leafB p = true
  | _, [], _, p, hp => by simp [rfL] at hp
  | 0, t :: ts, h, p, hp => by have := cnt_pos t; simp only [cntL] at h; omega
  | n + 1, .mk q ks :: ts, h, p, hp => by
    simp only [cntL, cntT] at h
    simp only [rfL, rfT, List.mem_append] at hp
    rcases hp with hp | hp
    · split at hp
      · simp only [List.mem_singleton] at hp
        subst hp
        assumption
      · exact rf_leafs n ks (by omega) p hp
    · exact rf_leafs n ts (by omega) p hp
theorem rf_len : ∀ (n : Nat) (l : List Tr), cntL l ≤ n → (rfL l).length ≤ cntL l
  | _, [], _ => by simp [rfL]
  | 0, t :: ts, h => by have := cnt_pos t; simp only [cntL] at h; omega
  | n + 1, .mk q ks :: ts, h => by
    simp only [cntL, cntT] at h
    have h1 := rf_len n ks (by omega)
    have h2 := rf_len n ts (by omega)
    simp only [rfL, rfT, cntL, cntT, List.length_append]
    split
    · simp; omega
    · omega

/-- The next one of a stack of rows, the top first; what is left. -/
def popR : List (List Tr) → Option (Tr × List (List Tr))
  | [] => none
  | [] :: r => popR r
  | (t :: ts) :: r => some (t, ts :: r)
def szR : List (List Tr) → Nat
  | [] => 0
  | r :: R => cntL r + szR R
def ndR : List (List Tr) → List (Pay × Nat)
  | [] => []
  | r :: R => ndL r ++ ndR R
def rfR : List (List Tr) → List Pay
  | [] => []
  | r :: R => rfL r ++ rfR R
def dmR : List (List Tr) → Nat
  | [] => 0
  | r :: R => max (if r = [] then 0 else R.length + dpL r) (dmR R)

theorem pop_none : ∀ {L : List (List Tr)}, popR L = none → szR L = 0 ∧ dmR L = 0 ∧ ndR L = [] ∧ rfR L = []
  | [], _ => ⟨rfl, rfl, rfl, rfl⟩
  | [] :: r, h => by
    obtain ⟨h1, h2, h3, h4⟩ := pop_none (L := r) h
    exact ⟨by simp [szR, cntL, h1], by simp [dmR, h2], by simp [ndR, ndL, h3], by simp [rfR, rfL, h4]⟩
  | (t :: ts) :: r, h => by simp [popR] at h
theorem pop_some : ∀ {L R : List (List Tr)} {p : Pay} {ks : List Tr}, popR L = some (.mk p ks, R) →
    szR L = szR (ks :: R) + 1 ∧ dmR L = max R.length (dmR (ks :: R)) ∧ ndR L = (p, ks.length) :: ndR (ks :: R) ∧ rfR L = (if leafB p = true then p :: rfR ([] :: R) else rfR (ks :: R)) ∧ 0 < R.length
  | [], R, p, ks, h => by simp [popR] at h
  | [] :: r, R, p, ks, h => by
    obtain ⟨h1, h2, h3, h4, h5⟩ := pop_some (L := r) h
    exact ⟨by simp [szR, cntL] at *; exact h1, by simp [dmR] at *; exact h2, by simp [ndR, ndL] at *; exact h3, by simp [rfR, rfL] at *; exact h4, h5⟩
  | (t :: ts) :: r, R, p, ks, h => by
    simp only [popR, Option.some.injEq, Prod.mk.injEq] at h
    obtain ⟨rfl, rfl⟩ := h
    refine ⟨by simp only [szR, cntL, cntT]; omega, ?_, by simp [ndR, ndL, ndT], ?_, by simp⟩
    · simp only [dmR, dpL, dpT, List.length_cons, reduceCtorEq, if_false]
      by_cases hk : ks = []
      · subst hk
        by_cases ht : ts = []
        · subst ht; simp only [dpL, if_true]; omega
        · simp only [dpL, ht, if_true, if_false]; omega
      · by_cases ht : ts = []
        · subst ht; simp only [dpL, hk, if_true, if_false]; omega
        · simp only [hk, ht, if_false]; omega
    · simp only [rfR, rfL, rfT]
      split <;> simp
theorem sz_pos {L : List (List Tr)} {x : Tr × List (List Tr)} (h : popR L = some x) : 0 < szR L := by
  obtain ⟨⟨p, ks⟩, R⟩ := x
  have := (pop_some h).1
  omega
theorem pop_same : ∀ {L M : List (List Tr)}, L.map List.length = M.map List.length → (popR L = none ∧ popR M = none ∧ L = M) ∨
    ∃ s R s' R', popR L = some (s, R) ∧ popR M = some (s', R') ∧ R.map List.length = R'.map List.length ∧ (L = M ↔ s = s' ∧ R = R')
  | [], [], _ => .inl ⟨rfl, rfl, rfl⟩
  | [], m :: M, h => by simp at h
  | l :: L, [], h => by simp at h
  | [] :: L, [] :: M, h => by
    rcases pop_same (L := L) (M := M) (by simpa using h) with ⟨h1, h2, h3⟩ | ⟨s, R, s', R', h1, h2, h3, h4⟩
    · exact .inl ⟨h1, h2, by rw [h3]⟩
    · exact .inr ⟨s, R, s', R', h1, h2, h3, by simpa using h4⟩
  | [] :: L, (t :: ts) :: M, h => by simp at h
  | (t :: ts) :: L, [] :: M, h => by simp at h
  | (t :: ts) :: L, (u :: us) :: M, h => .inr ⟨t, ts :: L, u, us :: M, rfl, rfl, by simpa using h, by simp [and_assoc]⟩
/-- Rows that are empty at the top make no difference. -/
theorem pop_nils : ∀ {K L : List (List Tr)}, (∀ r ∈ K, r = []) → popR (K ++ L) = popR L
  | [], L, _ => rfl
  | k :: K, L, h => by
    obtain rfl := h k (List.mem_cons_self ..)
    show popR (K ++ L) = popR L
    exact pop_nils fun r hr => h r (List.mem_cons_of_mem _ hr)

/-- The first error of a row of nodes. -/
def chk (f : Pay → Nat → Int) : List (Pay × Nat) → Int
  | [] => 0
  | (p, n) :: l => if f p n = 0 then chk f l else f p n
theorem chk_zero {f : Pay → Nat → Int} : ∀ {l : List (Pay × Nat)}, chk f l = 0 ↔ ∀ q ∈ l, f q.1 q.2 = 0
  | [] => by simp [chk]
  | (p, n) :: l => by
    simp only [chk, List.mem_cons, forall_eq_or_imp]
    by_cases h : f p n = 0
    · rw [if_pos h, chk_zero]; simp [h]
    · rw [if_neg h]; simp [h]
/-- What Check tells, by what each node is told as. -/
def ckT (f : Pay → Nat → Int) (t : Tr) : Int := if 16 < dpT t then 11 else if 1024 < cntT t then 4 else chk f (ndT t)
theorem ckT_zero {f : Pay → Nat → Int} {t : Tr} : ckT f t = 0 ↔ dpT t ≤ 16 ∧ cntT t ≤ 1024 ∧ ∀ q ∈ ndT t, f q.1 q.2 = 0 := by
  unfold ckT
  by_cases h : 16 < dpT t
  · rw [if_pos h]; omega
  · rw [if_neg h]
    by_cases h' : 1024 < cntT t
    · rw [if_pos h']; omega
    · rw [if_neg h', chk_zero]
      exact ⟨fun x => ⟨by omega, by omega, x⟩, fun x => x.2.2⟩
end Go.Proofs.YtlaiocdnddnnaaaGreatDoor
namespace Go.Proofs.YtlaiocdnddnnaaaGreatDoor
open Go.RowKit
theorem bel0 (w : World) (o : Obj) : Below w.heap.size w (w.alloc o) := (Below.refl _ _).alloc (Nat.le_refl _) o
theorem bel1 (w : World) (o o' : Obj) : Below w.heap.size w ((w.alloc o).alloc o') := (bel0 w o).alloc (by simp) o'
theorem bel2 (w : World) (o o' o'' : Obj) : Below w.heap.size w (((w.alloc o).alloc o').alloc o'') := (bel1 w o o').alloc (by simp; omega) o''
def gdB (r c : Int) : Bool := decide (0 ≤ r ∧ r < 65536 ∧ 0 ≤ c ∧ c < 256)
def ckI (r c : Int) : Int := if gdB r c = true then 0 else 12
def ckA (r c r' c' : Int) : Int := if ckI r c = 0 then ckI r' c' else 12
theorem gdB_iff {r c : Int} : gdB r c = true ↔ 0 ≤ r ∧ r < 65536 ∧ 0 ≤ c ∧ c < 256 := by simp [gdB]
theorem gdB_no {r c : Int} (h : ¬ (0 ≤ r ∧ r < 65536 ∧ 0 ≤ c ∧ c < 256)) : gdB r c = false := by simp only [gdB, decide_eq_false_iff_not]; exact h
theorem ck_cases (r c : Int) : (gdB r c = true ∧ ckI r c = 0) ∨ (gdB r c = false ∧ ckI r c = 12) := by
  unfold ckI
  cases gdB r c <;> simp
end Go.Proofs.YtlaiocdnddnnaaaGreatDoor
namespace Go.Proofs.YtlaiocdnddnnaaaGreatDoor
open Go.RowKit

/-- A formula's cells, but for its Kids' one. -/
def pc (p : Pay) : List Value := [.int .i64 p.kind, .int .i64 p.vk, .int .i64 p.vm, .int .i64 p.vs, .string p.vt, .bool p.vb, .int .i64 p.ve, .int .i64 p.r1, .int .i64 p.c1, .bool p.x1, .bool p.y1, .int .i64 p.r2, .int .i64 p.c2, .bool p.x2, .bool p.y2, .int .i64 p.sheet, .int .i64 p.op]
def ec (p : Pay) (k : Value) : List Value := pc p ++ [k]
/-- A formula as a value. -/
def ev (p : Pay) (k : Value) : Value := .agg #[.int .i64 p.kind, .int .i64 p.vk, .int .i64 p.vm, .int .i64 p.vs, .string p.vt, .bool p.vb, .int .i64 p.ve, .int .i64 p.r1, .int .i64 p.c1, .bool p.x1, .bool p.y1, .int .i64 p.r2, .int .i64 p.c2, .bool p.x2, .bool p.y2, .int .i64 p.sheet, .int .i64 p.op, k]

mutual
def LiT (w : World) (F : Nat → Prop) : Tr → List Value → Prop
  | .mk p ks, cs => ∃ A c, cs = ec p (.slice A ks.length c) ∧ ks.length ≤ c ∧ (0 < ks.length → ∃ a, A = some a ∧ F a.block ∧ LiL w F ks a 0)
def LiL (w : World) (F : Nat → Prop) : List Tr → Addr → Nat → Prop
  | [], _, _ => True
  | t :: ts, a, i => (∃ cs, LiT w F t cs ∧ ∀ (j : Nat) (u : Value), cs[j]? = some u → w.cell? (a.add (i * 18 + j)) = some u) ∧ LiL w F ts a (i + 1)
end
theorem liT_len {w : World} {F : Nat → Prop} : ∀ {t : Tr} {cs : List Value}, LiT w F t cs → cs.length = 18
  | .mk p ks, cs, h => by
    simp only [LiT] at h
    obtain ⟨A, c, rfl, _⟩ := h
    rfl
mutual
theorem liT_move {w w' : World} {F F' : Nat → Prop} (hm : Move w F w' F') : ∀ {t : Tr} {cs : List Value}, LiT w F t cs → LiT w' F' t cs
  | .mk p ks, cs, h => by
    simp only [LiT] at h ⊢
    obtain ⟨A, c, h1, h2, h3⟩ := h
    refine ⟨A, c, h1, h2, fun hn => ?_⟩
    obtain ⟨a, e, hb, hl⟩ := h3 hn
    exact ⟨a, e, (hm _ hb).1, liL_move hm hb hl⟩
theorem liL_move {w w' : World} {F F' : Nat → Prop} (hm : Move w F w' F') : ∀ {ts : List Tr} {a : Addr} {i : Nat}, F a.block → LiL w F ts a i → LiL w' F' ts a i
  | [], _, _, _, _ => by simp [LiL]
  | t :: ts, a, i, hb, h => by
    simp only [LiL] at h ⊢
    obtain ⟨⟨cs, h1, h2⟩, h3⟩ := h
    exact ⟨⟨cs, liT_move hm h1, fun j u hu => by rw [hm.cell (by rw [add_block]; exact hb)]; exact h2 j u hu⟩, liL_move hm hb h3⟩
end
theorem liL_get {w : World} {F : Nat → Prop} : ∀ {ts : List Tr} {a : Addr} {i : Nat}, LiL w F ts a i ↔ ∀ (k : Nat) (t : Tr), ts[k]? = some t → ∃ cs, LiT w F t cs ∧ ∀ (j : Nat) (u : Value), cs[j]? = some u → w.cell? (a.add ((i + k) * 18 + j)) = some u
  | [], a, i => by simp [LiL]
  | t :: ts, a, i => by
    simp only [LiL, liL_get (ts := ts)]
    constructor
    · rintro ⟨h1, h2⟩ k x hk
      cases k with
      | zero => simp only [List.getElem?_cons_zero, Option.some.injEq] at hk; subst hk; simpa using h1
      | succ k =>
        have := h2 k x (by simpa using hk)
        rwa [show i + 1 + k = i + (k + 1) by omega] at this
    · intro h
      refine ⟨by simpa using h 0 t rfl, fun k x hk => ?_⟩
      have := h (k + 1) x (by simpa using hk)
      rwa [show i + (k + 1) = i + 1 + k by omega] at this

/-- A formula. -/
def treeF : Form Tr where
  k := 18
  R w F cs t := LiT w F t cs
  len h := liT_len h
  move hm h := liT_move hm h

theorem tree_mk {w : World} {F : Nat → Prop} {p : Pay} {ks : List Tr} {cs : List Value} : LiT w F (.mk p ks) cs ↔ ∃ A c, cs = ec p (.slice A ks.length c) ∧ ks.length ≤ c ∧ RowF treeF w F A ks.length ks := by
  simp only [LiT]
  constructor
  · rintro ⟨A, c, h1, h2, h3⟩
    refine ⟨A, c, h1, h2, rfl, fun hn => ?_⟩
    obtain ⟨a, e, hb, hl⟩ := h3 hn
    refine ⟨a, e, hb, fun i t hi => ?_⟩
    obtain ⟨cs', h4, h5⟩ := liL_get.1 hl i t hi
    exact ⟨cs', h4, fun j u hu => by have := h5 j u hu; rwa [Nat.zero_add] at this⟩
  · rintro ⟨A, c, h1, h2, h3⟩
    refine ⟨A, c, h1, h2, fun hn => ?_⟩
    obtain ⟨a, e, hb, hl⟩ := h3.at_ hn
    refine ⟨a, e, hb, liL_get.2 fun i t hi => ?_⟩
    obtain ⟨cs', h4, h5⟩ := hl i t hi
    exact ⟨cs', h4, fun j u hu => by have := h5 j u hu; rw [Nat.zero_add]; exact this⟩

/-- A row of a call's own that is cut shorter. -/
theorem own_cut {W : World} {base n m c : Nat} {e : TypeId} {A : Option Addr} {xs : List Value} (h : W.ownsRow base e 1 (.slice A n c) n xs) (hm : m ≤ n) : W.ownsRow base e 1 (.slice A m c) m (xs.take m) := by
  refine ⟨by rw [List.length_take, h.1]; omega, ?_⟩
  rcases h.2 with ⟨h1, h2⟩ | ⟨g, cap, cur, h1, hb, hg, hnc, hm', hs, ht⟩
  · subst h2
    obtain rfl : m = 0 := by omega
    injection h1 with hA _ hC
    subst hA hC
    exact .inl ⟨rfl, rfl⟩
  · injection h1 with hA _ hC
    subst hA hC
    exact .inr ⟨g, c, cur, rfl, hb, hg, by omega, hm', hs, by rw [← ht, List.take_take]; congr 1; omega⟩
/-- A row of a call's own, one cell of it stored. -/
theorem own_put {W : World} {base n c g j : Nat} {e : TypeId} {u : Value} {xs : List Value} (h : W.ownsRow base e 1 (.slice (some ⟨g, 0, none⟩) n c) n xs) : (W.setCell ⟨g, j, none⟩ u).ownsRow base e 1 (.slice (some ⟨g, 0, none⟩) n c) n (xs.set j u) := by
  refine ⟨by rw [List.length_set]; exact h.1, ?_⟩
  rcases h.2 with ⟨h1, h2⟩ | ⟨g', cap, cur, h1, hb, hg, hnc, hm', hs, ht⟩
  · cases h1
  · injection h1 with hA _ hC
    injection hA with hA
    injection hA with hA
    subst hA hC
    have hk : Bk W g e cur := hg
    refine .inr ⟨g, c, _, rfl, hb, hk.set_ j u, hnc, hm', by simpa using hs, ?_⟩
    rw [← ht, Array.toList_setIfInBounds, ← List.take_set]

/-- Headers that read as rows of formulas. -/
def Hdr (W : World) (B : Nat) (xs : List Value) (K : List (List Tr)) : Prop := ∀ (i : Nat) (ts : List Tr), K[i]? = some ts → ∃ A c, xs[i]? = some (.slice A ts.length c) ∧ ts.length ≤ c ∧ RowF treeF W (· < B) A ts.length ts
/-- A stack: its box, its row, the lowest first. -/
structure Stk (W : World) (B base g : Nat) (v : Value) (K : List (List Tr)) : Prop where
  box : Bk W g 96 #[v]
  row : ∃ xs, W.ownsRow base 45 1 v K.length xs ∧ Hdr W B xs K

theorem Hdr.below {W W' : World} {B B' : Nat} {xs : List Value} {K : List (List Tr)} (h : Hdr W B xs K) (hb : Below B' W W') (hB : B ≤ B') : Hdr W' B xs K := fun i ts hi => by
  obtain ⟨A, c, h1, h2, h3⟩ := h i ts hi
  exact ⟨A, c, h1, h2, h3.below hb hB⟩
theorem Hdr.take {W : World} {B : Nat} {xs : List Value} {K : List (List Tr)} (h : Hdr W B xs K) (m : Nat) : Hdr W B (xs.take m) (K.take m) := fun i ts hi => by
  rw [List.getElem?_take] at hi
  split at hi
  · obtain ⟨A, c, h1, h2, h3⟩ := h i ts hi
    exact ⟨A, c, by rw [List.getElem?_take, if_pos (by assumption)]; exact h1, h2, h3⟩
  · cases hi
theorem Hdr.set {W : World} {B j : Nat} {xs : List Value} {K : List (List Tr)} (h : Hdr W B xs K) {A : Option Addr} {c : Nat} {ts : List Tr} (hl : xs.length = K.length) (hc : ts.length ≤ c) (hr : RowF treeF W (· < B) A ts.length ts) : Hdr W B (xs.set j (.slice A ts.length c)) (K.set j ts) := fun i us hi => by
  rw [List.getElem?_set] at hi
  split at hi
  · subst_vars
    split at hi
    · injection hi with hi
      subst hi
      exact ⟨A, c, by rw [List.getElem?_set_self (by omega)], hc, hr⟩
    · cases hi
  · obtain ⟨A', c', h1, h2, h3⟩ := h i us hi
    exact ⟨A', c', by rw [List.getElem?_set_ne (by assumption)]; exact h1, h2, h3⟩
theorem Hdr.snoc {W : World} {B : Nat} {xs : List Value} {K : List (List Tr)} (h : Hdr W B xs K) {A : Option Addr} {c : Nat} {ts : List Tr} (hl : xs.length = K.length) (hc : ts.length ≤ c) (hr : RowF treeF W (· < B) A ts.length ts) : Hdr W B (xs ++ [.slice A ts.length c]) (K ++ [ts]) := fun i us hi => by
  rcases Nat.lt_trichotomy i K.length with h1 | h1 | h1
  · rw [List.getElem?_append_left h1] at hi
    obtain ⟨A', c', h1', h2, h3⟩ := h i us hi
    exact ⟨A', c', by rw [List.getElem?_append_left (by omega)]; exact h1', h2, h3⟩
  · subst h1
    simp at hi
    subst hi
    exact ⟨A, c, by rw [← hl]; simp, hc, hr⟩
  · rw [List.getElem?_eq_none (by simp; omega)] at hi
    cases hi
theorem Stk.len {W : World} {B base g : Nat} {v : Value} {K : List (List Tr)} (h : Stk W B base g v K) : g < W.heap.size := h.box.lt
theorem Stk.below {W W' : World} {B base g : Nat} {v : Value} {K : List (List Tr)} (h : Stk W B base g v K) (hb : Below W.heap.size W W') (hB : B ≤ W.heap.size) : Stk W' B base g v K := by
  obtain ⟨xs, h1, h2⟩ := h.row
  exact ⟨h.box.below hb h.box.lt, xs, (Keep.of_below (S := fun i => W.heap.size ≤ i) hb fun i _ h => h).own h1 fun i hi hh => by have := (h1.lt i hi).2; omega, h2.below hb hB⟩
theorem Stk.keep {W W' : World} {B base g : Nat} {v : Value} {K : List (List Tr)} {S : Nat → Prop} (h : Stk W B base g v K) (hk : Keep S W W') (hg : ¬ S g) (hv : ∀ i, v.ownBlock = some i → ¬ S i) (hS : ∀ i, i < B → ¬ S i) (hB : B ≤ W.heap.size) : Stk W' B base g v K := by
  obtain ⟨xs, h1, h2⟩ := h.row
  exact ⟨hk.bk h.box hg, xs, hk.own h1 hv, h2.below (hk.below (B := B) hB hS) (Nat.le_refl _)⟩
theorem Stk.ne {W : World} {B base g : Nat} {v : Value} {K : List (List Tr)} (h : Stk W B base g v K) : v.ownBlock ≠ some g := by
  obtain ⟨xs, h1, h2⟩ := h.row
  exact own_ne h1 h.box (by decide)
end Go.Proofs.YtlaiocdnddnnaaaGreatDoor
namespace Go.Proofs.YtlaiocdnddnnaaaGreatDoor
open Go.RowKit
def ckE (m s : Int) : Int := if s < 0 ∨ 9 < s ∨ (0 < s ∧ m % 10 = 0) then 1 else 0
theorem tmod10 (m : Int) : m.tmod 10 = 0 ↔ m % 10 = 0 := ⟨fun h => Int.emod_eq_zero_of_dvd (Int.dvd_of_tmod_eq_zero h), fun h => Int.tmod_eq_zero_of_dvd (Int.dvd_of_emod_eq_zero h)⟩
theorem check_any {w : World} {m s : Int} :
    Calls Tryz.prog 109 #[.agg #[.int .i64 m, .int .i64 s]] w fun e w' => e = .returned (.int .i64 (ckE m s)) ∧ Below w.heap.size w w' := by
  by_cases h0 : s < 0
  · have HV := Lib.hid (show ckE m s = 1 by unfold ckE; rw [if_pos (.inl h0)]); go_enter Tryz.func109, Tryz.ntmps109; go_wp2; go_ret; exact ⟨by rw [HV.out]; rfl, bel0 _ _⟩
  · by_cases h9 : 9 < s
    · have HV := Lib.hid (show ckE m s = 1 by unfold ckE; rw [if_pos (.inr (.inl h9))]); go_enter Tryz.func109, Tryz.ntmps109; go_wp2; go_ret; exact ⟨by rw [HV.out]; rfl, bel0 _ _⟩
    · by_cases hp : 0 < s
      · by_cases hm : m % 10 = 0
        · have HV := Lib.hid (show ckE m s = 1 by unfold ckE; rw [if_pos (.inr (.inr ⟨hp, hm⟩))]); have hm' : (m.tmod 10 == 0) = true := by simpa using (tmod10 m).2 hm
          clear hm; go_enter Tryz.func109, Tryz.ntmps109; go_wp2; go_ret; exact ⟨by rw [HV.out]; rfl, bel0 _ _⟩
        · have HV := Lib.hid (show ckE m s = 0 by unfold ckE; rw [if_neg (by omega)]); have hm' : (m.tmod 10 == 0) = false := by simpa using fun h => hm ((tmod10 m).1 h)
          clear hm; go_enter Tryz.func109, Tryz.ntmps109; go_wp2; go_ret; exact ⟨by rw [HV.out]; rfl, bel0 _ _⟩
      · have hs : s = 0 := by omega
        subst hs; have HV := Lib.hid (show ckE m 0 = 0 by unfold ckE; rw [if_neg (by omega)]); clear h0 h9 hp; go_enter Tryz.func109, Tryz.ntmps109; go_wp2; go_ret; exact ⟨by rw [HV.out]; rfl, bel0 _ _⟩
theorem int_any {w : World} {n : Int} :
    Calls Tryz.prog 62 #[.int .i64 n] w fun e w' => e = .returned (.agg #[.int .i64 n, .int .i64 0]) ∧ Below w.heap.size w w' := by
  go_enter Tryz.func62, Tryz.ntmps62; go_wp2; exact bodyPost_ret (v := .agg #[.int .i64 n, .int .i64 0]) (by simp [results, Tryz.results62, go_sem]) rfl ⟨rfl, bel0 _ _⟩
end Go.Proofs.YtlaiocdnddnnaaaGreatDoor
