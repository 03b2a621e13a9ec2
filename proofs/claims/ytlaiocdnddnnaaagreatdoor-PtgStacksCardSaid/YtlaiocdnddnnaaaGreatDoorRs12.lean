/- Ways through a tree in memory: rows of steps, nineteen cells each. No condition. -/
/- What an append to a way's row is made of, by what of it is done. No condition. -/
/- ptg's reader, what one token more makes of its stack; states of the two regions that append. No condition. -/
import Derived.Test.YtlaiocdnddnnaaaGreatDoorRw
import Derived.Test.YtlaiocdnddnnaaaGreatDoorBy
import Derived.Test.YtlaiocdnddnnaaaGreatDoorApp
import Derived.Test.YtlaiocdnddnnaaaGreatDoorGt12
set_option linter.unusedVariables false
set_option linter.unusedSimpArgs false
namespace Go.Proofs.YtlaiocdnddnnaaaGreatDoor
open Go.RowKit
theorem own_putk {W : World} {base n c g j k : Nat} {e : TypeId} {u : Value} {xs : List Value} (h : W.ownsRow base e k (.slice (some ⟨g, 0, none⟩) n c) n xs) : (W.setCell ⟨g, j, none⟩ u).ownsRow base e k (.slice (some ⟨g, 0, none⟩) n c) n (xs.set j u) := by
  refine ⟨by rw [List.length_set]; exact h.1, ?_⟩
  rcases h.2 with ⟨h1, h2⟩ | ⟨g', cap, cur, h1, hb, hg, hnc, hm', hs, ht⟩
  · cases h1
  · injection h1 with hA _ hC; injection hA with hA; injection hA with hA; subst hA hC; have hk : Bk W g e cur := hg; refine .inr ⟨g, c, _, rfl, hb, hk.set_ j u, hnc, hm', by simpa using hs, ?_⟩; rw [← ht, Array.toList_setIfInBounds, ← List.take_set]
theorem flat_set {α : Type} {k j : Nat} (hj : j < k) (u : Value) (y : α) : ∀ {S : List (List Value × α)}, (∀ p ∈ S, p.1.length = k) → ∀ {i : Nat} {x : List Value × α}, S[i]? = some x → (S.flatMap (·.1)).set (i * k + j) u = (S.set i (x.1.set j u, y)).flatMap (·.1)
  | [], _, i, x, hx => by simp at hx
  | p :: S, h, 0, x, hx => by
    simp only [List.getElem?_cons_zero, Option.some.injEq] at hx; subst hx; have h1 := h p (List.mem_cons_self ..); rw [List.set_cons_zero, List.flatMap_cons, List.flatMap_cons, Nat.zero_mul, Nat.zero_add, List.set_append_left _ _ (by omega)]
  | p :: S, h, i + 1, x, hx => by
    simp only [List.getElem?_cons_succ] at hx; have h1 := h p (List.mem_cons_self ..); have h2 := flat_set hj u y (fun q hq => h q (List.mem_cons_of_mem _ hq)) hx; rw [List.set_cons_succ, List.flatMap_cons, List.flatMap_cons, ← h2, List.set_append_right _ _ (by rw [h1, Nat.add_mul]; omega), h1]
    congr 2
    rw [Nat.add_mul]; omega
def sc (p : Pay) (k : Value) (g : Nat) : List Value := ec p k ++ [.int .i64 g]
def LiS (w : World) (F : Nat → Prop) (cs : List Value) (s : Wst) : Prop := ∃ A c, cs = sc s.p (.slice A s.ks.length c) s.gone ∧ s.ks.length ≤ c ∧ RowF treeF w F A s.ks.length s.ks
def stpF : Form Wst where
  k := 19
  R w F cs s := LiS w F cs s
  len h := by obtain ⟨A, c, rfl, _⟩ := h; rfl
  move hm h := by obtain ⟨A, c, h1, h2, h3⟩ := h; exact ⟨A, c, h1, h2, h3.move hm⟩
theorem sc_one (p : Pay) {A : Option Addr} {n c g : Nat} : ∀ u ∈ sc p (.slice A n c) g, u.oneCell' = true := by
  intro u hu
  rcases List.mem_append.1 hu with h | h
  · exact ec_one p u h
  · simp only [List.mem_singleton] at h; subst h; rfl
structure Wy (W : World) (B base g : Nat) (v : Value) (L : List Wst) : Prop where
  box : Bk W g 74 #[v]
  row : OwnF stpF W (· < B) base 72 v L
  le : B ≤ base ∧ B ≤ g
theorem Wy.ne {W : World} {B base g : Nat} {v : Value} {L : List Wst} (h : Wy W B base g v L) : v.ownBlock ≠ some g := by
  obtain ⟨S, _, _, ho⟩ := h.row.ex; exact own_ne ho h.box (by decide)
theorem Wy.below {W W' : World} {B base g : Nat} {v : Value} {L : List Wst} (h : Wy W B base g v L) (hb : Below W.heap.size W W') (hB : B ≤ W.heap.size) : Wy W' B base g v L :=
  ⟨h.box.below hb h.box.lt, h.row.keep (T := fun i => W.heap.size ≤ i) (Keep.of_below hb fun i _ h => h) (fun i hi hh => by have := (h.row.lt i hi).2; omega) (Move.of_below hb (fun i hi => Nat.lt_of_lt_of_le hi hB) fun i hi => hi), h.le⟩
end Go.Proofs.YtlaiocdnddnnaaaGreatDoor
namespace Go.Proofs.YtlaiocdnddnnaaaGreatDoor
open Go.RowKit
def Or7 (a b c d e f g h : Option Value) : Prop :=
  (c.isSome = true → b.isSome = true) ∧ (d.isSome = true → a.isSome = true ∧ c.isSome = true) ∧ (e.isSome = true → d.isSome = true) ∧ (f.isSome = true → e.isSome = true) ∧ (g.isSome = true → f.isSome = true) ∧ (h.isSome = true → g.isSome = true)
section
variable {a b c d e f g h : Option Value}
theorem Or7.k4 (H : Or7 a b c d e f g h) (he : e = none) : h = none := by
  cases hh : h with
  | none => rfl
  | some x =>
    have h4 := H.2.2.2.1 (H.2.2.2.2.1 (H.2.2.2.2.2 (by rw [hh]; rfl))); rw [he] at h4
    cases h4
theorem Or7.k6 (H : Or7 a b c d e f g h) (he : g = none) : h = none := by
  cases hh : h with
  | none => rfl
  | some x =>
    have h4 := H.2.2.2.2.2 (by rw [hh]; rfl); rw [he] at h4
    cases h4
theorem Or7.k0 (H : Or7 a b c d e f g h) (he : a = none) : h = none := by
  refine H.k4 ?_
  cases hh : e with
  | none => rfl
  | some x =>
    have h4 := (H.2.1 (H.2.2.1 (by rw [hh]; rfl))).1; rw [he] at h4
    cases h4
theorem Or7.k1 (H : Or7 a b c d e f g h) (he : b = none) : h = none := by
  refine H.k4 ?_
  cases hh : e with
  | none => rfl
  | some x =>
    have h4 := H.1 (H.2.1 (H.2.2.1 (by rw [hh]; rfl))).2; rw [he] at h4
    cases h4
end
def Eqs (a : Option Value) (x : Value) : Prop := ∀ u, a = some u → u = x
theorem Eqs.of (x : Value) : Eqs (some x) x := fun u h => by injection h with h; exact h.symm
def W7 (W2 : World) (base n : Nat) (v : Value) (xs news : List Value) (x0 x1 x2 x3 x4 x5 : Value) : List (Option Value) → World → Prop
  | [a, b, c, d, e, f, g, h], W => (Eqs a x0 ∧ Eqs b x1 ∧ Eqs c x2 ∧ Eqs d x3 ∧ Eqs e x4 ∧ Eqs f x5) ∧ Or7 a b c d e f g h ∧
    (h = none → Below W2.heap.size W2 W ∧ ∀ u, g = some u → ∃ i, u = .slice (some ⟨i, 0, none⟩) 1 1 ∧ W2.heap.size ≤ i ∧ Bk W i 72 news.toArray) ∧
    ∀ u, h = some u → ∃ W1, Below W2.heap.size W2 W1 ∧ Grew W1 W v u ∧ W.ownsRow base 72 19 u (n + 1) (xs ++ news)
  | _, _ => False
section
variable {W2 W W' : World} {base n : Nat} {v u : Value} {xs news : List Value} {x0 x1 x2 x3 x4 x5 : Value} {a b c d e f g h : Option Value} {y : Value}
theorem W7.s0 (H : W7 W2 base n v xs news x0 x1 x2 x3 x4 x5 [none, b, c, d, e, f, g, h] W) : W7 W2 base n v xs news x0 x1 x2 x3 x4 x5 [some x0, b, c, d, e, f, g, h] W := by
  obtain ⟨⟨_, h1⟩, ⟨o0, o1, o2⟩, h3⟩ := H; exact ⟨⟨.of _, h1⟩, ⟨o0, fun hx => ⟨rfl, (o1 hx).2⟩, o2⟩, h3⟩
theorem W7.s1 (H : W7 W2 base n v xs news x0 x1 x2 x3 x4 x5 [a, none, c, d, e, f, g, h] W) : W7 W2 base n v xs news x0 x1 x2 x3 x4 x5 [a, some x1, c, d, e, f, g, h] W := by
  obtain ⟨⟨h0, _, h1⟩, ⟨o0, o2⟩, h3⟩ := H; exact ⟨⟨h0, .of _, h1⟩, ⟨fun _ => rfl, o2⟩, h3⟩
theorem W7.s2 (H : W7 W2 base n v xs news x0 x1 x2 x3 x4 x5 [a, some y, none, d, e, f, g, h] W) : W7 W2 base n v xs news x0 x1 x2 x3 x4 x5 [a, some y, some x2, d, e, f, g, h] W := by
  obtain ⟨⟨h0, h1, _, h2⟩, ⟨o0, o1, o2⟩, h3⟩ := H; exact ⟨⟨h0, h1, .of _, h2⟩, ⟨fun _ => rfl, fun hx => ⟨(o1 hx).1, rfl⟩, o2⟩, h3⟩
theorem W7.s3 {y' : Value} (H : W7 W2 base n v xs news x0 x1 x2 x3 x4 x5 [some y, b, some y', none, e, f, g, h] W) : W7 W2 base n v xs news x0 x1 x2 x3 x4 x5 [some y, b, some y', some x3, e, f, g, h] W := by
  obtain ⟨⟨h0, h1, h2, _, h4⟩, ⟨o0, o1, o2, o3⟩, h3⟩ := H; exact ⟨⟨h0, h1, h2, .of _, h4⟩, ⟨o0, fun _ => ⟨rfl, rfl⟩, fun _ => rfl, o3⟩, h3⟩
theorem W7.s4 (H : W7 W2 base n v xs news x0 x1 x2 x3 x4 x5 [a, b, c, some y, none, f, g, h] W) : W7 W2 base n v xs news x0 x1 x2 x3 x4 x5 [a, b, c, some y, some x4, f, g, h] W := by
  obtain ⟨⟨h0, h1, h2, h3, _, h4⟩, ⟨o0, o1, o2, o3, o4⟩, h5⟩ := H; exact ⟨⟨h0, h1, h2, h3, .of _, h4⟩, ⟨o0, o1, fun _ => rfl, fun _ => rfl, o4⟩, h5⟩
theorem W7.s5 (H : W7 W2 base n v xs news x0 x1 x2 x3 x4 x5 [a, b, c, d, some y, none, g, h] W) : W7 W2 base n v xs news x0 x1 x2 x3 x4 x5 [a, b, c, d, some y, some x5, g, h] W := by
  obtain ⟨⟨h0, h1, h2, h3, h4, _⟩, ⟨o0, o1, o2, o3, o4, o5⟩, h5⟩ := H; exact ⟨⟨h0, h1, h2, h3, h4, .of _⟩, ⟨o0, o1, o2, fun _ => rfl, fun _ => rfl, o5⟩, h5⟩
theorem W7.s6 (H : W7 W2 base n v xs news x0 x1 x2 x3 x4 x5 [a, b, c, d, e, some y, none, h] W) : W7 W2 base n v xs news x0 x1 x2 x3 x4 x5 [a, b, c, d, e, some y, some (.slice (some ⟨W.heap.size, 0, none⟩) 1 1), h] (W.alloc (.cells news.toArray 72)) := by
  obtain ⟨h0, O, h3, h4⟩ := H; obtain rfl := O.k6 rfl; obtain ⟨hb, -⟩ := h3 rfl; obtain ⟨o0, o1, o2, o3, o4, o5⟩ := O; refine ⟨h0, ⟨o0, o1, o2, o3, fun _ => rfl, fun _ => rfl⟩, fun _ => ⟨hb.alloc hb.size _, fun u hu => ?_⟩, fun u hu => by cases hu⟩; injection hu with hu; exact ⟨_, hu.symm, hb.size, Bk.new _ _ _⟩
theorem W7.s7 (H : W7 W2 base n v xs news x0 x1 x2 x3 x4 x5 [a, b, c, d, e, f, some y, none] W) (ho : W'.ownsRow base 72 19 u (n + 1) (xs ++ news)) (hg : Grew W W' v u) : W7 W2 base n v xs news x0 x1 x2 x3 x4 x5 [a, b, c, d, e, f, some y, some u] W' := by
  obtain ⟨h0, ⟨o0, o1, o2, o3, o4, o5⟩, h3, h4⟩ := H; refine ⟨h0, ⟨o0, o1, o2, o3, o4, fun _ => rfl⟩, fun h => (by cases h), fun u' hu => ?_⟩; injection hu with hu; subst hu; exact ⟨W, (h3 rfl).1, hg, ho⟩
end
end Go.Proofs.YtlaiocdnddnnaaaGreatDoor
namespace Go.Proofs.YtlaiocdnddnnaaaGreatDoor
open Go.RowKit
theorem gw_move {W0 W : World} {base g : Nat} {v u : Value} (hk : Keep (ApT g v) W0 W) (hl : Lies W0 v u) : Move W0 (Gw base g v W0) W (Gw base g u W) := fun i hi => by
  refine ⟨⟨hi.1, Nat.lt_of_lt_of_le hi.2.1 hk.size, ?_⟩, hk.block i hi.2.1 hi.2.2⟩; rintro (h | h)
  · exact hi.2.2 (.inl h)
  · exact hi.2.2 (.inr (hl.old hi.2.1 h))
theorem stack_next {W0 W : World} {base g m c' first : Nat} {v u : Value} {ops : List Tr} {S : List (List Value × Tr)} {p : Pay} {A' : Option Addr} (hS : Trs W0 (Gw base g v W0) S) (hm : S.map (·.2) = ops) (hf : first ≤ ops.length) (hk : Keep (ApT g v) W0 W) (hl : Lies W0 v u)
    (hc : m ≤ c') (hr : RowF treeF W0 (Gw base g v W0) A' m (ops.drop first)) (ho : W.ownsRow base 47 18 u (first + 1) ((S.take first).flatMap (·.1) ++ ec p (.slice A' m c'))) :
    ∃ S', Trs W (Gw base g u W) S' ∧ S'.map (·.2) = ops.take first ++ [.mk p (ops.drop first)] ∧ W.ownsRow base 47 18 u (ops.take first ++ [Tr.mk p (ops.drop first)]).length (S'.flatMap (·.1)) := by
  have hmv := gw_move (base := base) hk hl; have hml : m = (ops.drop first).length := hr.len.symm; refine ⟨S.take first ++ [(ec p (.slice A' m c'), .mk p (ops.drop first))], ?_, ?_, ?_⟩
  · intro x hx
    rcases List.mem_append.1 hx with hx | hx
    · exact liT_move hmv (hS x (List.mem_of_mem_take hx))
    · simp only [List.mem_singleton] at hx; subst hx; rw [hml] at hc hr ⊢; exact tree_mk.2 ⟨A', c', rfl, hc, hr.move hmv⟩
  · rw [List.map_append, List.map_take, hm]; rfl
  · have e : (ops.take first ++ [Tr.mk p (ops.drop first)]).length = first + 1 := by simp [Nat.min_eq_left hf]
    rw [e]
    simpa using ho
def advE (A : Option Addr) (c k : Nat) : Option Addr := if c = k then A else A.map (·.add (k * 18))
theorem run_loE (w : World) (A : Option Addr) (n c k : Nat) (hk : k ≤ n) : (Instr.sliceAt 45 (.slice A n c) (some (.int .i64 (k : Int))) none none).run Tryz.prog w = .ok (.slice (advE A c k) (n - k) (c - k)) w := by
  unfold advE; have hu : Tryz.prog.underlying 45 = some (.slice (Tryz.prog.elem 45)) := by kernel_rfl
  rw [run_sliceAt_slice _ _ _ _ _ _ hu, run_slice_l _ _ _ _ _ hu .i64 (k : Int) (by omega) (by omega)]; have hs : (sizeOf (Tryz.prog.elem 45)).run Tryz.prog w = .ok 18 w := by kernel_rfl
  rw [hs]; simp [Result.andThen, sliced]
theorem run_hiE (w : World) (A : Option Addr) (n c k : Nat) (hk : k ≤ c) : (Instr.sliceAt 45 (.slice A n c) none (some (.int .i64 (k : Int))) none).run Tryz.prog w = .ok (.slice A k c) w := by
  have hu : Tryz.prog.underlying 45 = some (.slice (Tryz.prog.elem 45)) := by kernel_rfl
  rw [run_sliceAt_slice _ _ _ _ _ _ hu, run_slice_h _ _ _ _ _ hu .i64 (k : Int) (by omega) (by omega)]; have hs : (sizeOf (Tryz.prog.elem 45)).run Tryz.prog w = .ok 18 w := by kernel_rfl
  rw [hs]
  cases A with
  | none => simp [Result.andThen, sliced]
  | some a => simp [Result.andThen, sliced, Addr.add]
theorem rd_advE {w : World} {base n c k : Nat} {A : Option Addr} {S : List (List Value × Tr)} (ho : w.ownsRow base 47 18 (.slice A n c) n (S.flatMap (·.1))) (hS : ∀ p ∈ S, p.1.length = 18) (hn : S.length = n) (hk : k ≤ n) : Rd w w.heap.size 18 (advE A c k) (n - k) ((S.drop k).flatMap (·.1)) := by
  obtain ⟨A2, c2, e, hc2, hlt, hrd⟩ := own_form ho; injection e with e1 _ e3; subst e1 e3; have := hrd.cut (i := k) (j := n) hk (Nat.le_refl _) hc2; rw [flat_drop hS] at this
  have hl : ((S.drop k).flatMap (·.1)).length = (n - k) * 18 := by
    rw [flat_len (k := 18) (fun p hp => hS p (List.mem_of_mem_drop hp)), List.length_drop, hn]
  rw [List.take_of_length_le (Nat.le_of_eq hl)] at this; exact this
theorem bx_turn {w W W' : World} {bs : Bxs} {i g : Nat} {ty : TypeId} {cs vs : List Value} {T : Nat → Prop} (h : BX w bs W) (hi : bs[i]? = some (g, ty, cs)) (hk : Bk W' g ty vs.toArray) (hK : Keep T W W') (hT : ∀ b ∈ bs, b.1 ≠ g → ¬ T b.1) (hlow : ∀ j, j < w.heap.size → ¬ T j) : BX w (bs.set i (g, ty, vs)) W' := by
  have hg := h.lo _ (List.mem_of_getElem? hi)
  have hmap : (bs.set i (g, ty, vs)).map (·.1) = bs.map (·.1) := by
    rw [List.map_set]; apply List.ext_getElem?; intro j; rw [List.getElem?_set, List.getElem?_map]
    split
    · subst_vars; rw [List.length_map, if_pos (List.getElem?_eq_some_iff.1 hi).1, hi]; rfl
    · rfl
  refine ⟨h.bel.trans (hK.below (B := w.heap.size) h.bel.size hlow), fun b hb => ?_, fun b hb => ?_, by rw [hmap]; exact h.nd⟩
  · rcases List.mem_or_eq_of_mem_set hb with hb | rfl
    · exact h.lo b hb
    · exact hg
  · obtain ⟨j, hj⟩ := List.getElem?_of_mem hb; rw [List.getElem?_set] at hj
    split at hj
    · split at hj
      · injection hj with hj; subst hj; exact hk
      · cases hj
    · rename_i hne
      have hm := List.mem_of_getElem? hj; refine hK.bk (h.bk b hm) (hT b hm fun e => ?_); have h1 : (bs.map (·.1))[i]? = some g := by rw [List.getElem?_map, hi]; rfl
      have h2 : (bs.map (·.1))[j]? = some g := by rw [List.getElem?_map, hj, ← e]; rfl
      obtain ⟨l1, e1⟩ := List.getElem?_eq_some_iff.1 h1; obtain ⟨l2, e2⟩ := List.getElem?_eq_some_iff.1 h2; exact hne ((List.getElem_inj h.nd).1 (e1.trans e2.symm))
def S7 (W0 : World) (g0 : Nat) (p : Pay) (z : Int) (m : Nat) (news : List Value) : List Value → World → Prop
  | [], W => Keep (fun i => i = g0) W0 W ∧ Bk W g0 144 (tc p (.slice none 0 0) z).toArray
  | [u], W => u = .slice none 0 0 ∧ Keep (fun i => i = g0) W0 W ∧ Bk W g0 144 (tc p (.slice none 0 0) z).toArray
  | [_, u], W => Keep (fun i => i = g0) W0 W ∧ Bk W g0 144 (tc p (.slice none 0 0) z).toArray ∧ W.ownsRow W0.heap.size 47 18 u m news
  | _ :: u :: _ :: _, W => Keep (fun i => i = g0) W0 W ∧ Bk W g0 144 (tc p u z).toArray ∧ W.ownsRow W0.heap.size 47 18 u m news
theorem S7.keep {W0 W : World} {g0 : Nat} {p : Pay} {z : Int} {m : Nat} {news vals : List Value} (h : S7 W0 g0 p z m news vals W) : Keep (fun i => i = g0) W0 W := by
  match vals, h with
  | [], h => exact h.1
  | [_], h => exact h.2.1
  | [_, _], h => exact h.1
  | _ :: _ :: _ :: _, h => exact h.1
def S8 (W0 : World) (base g : Nat) (C : Value → List Value) (n k : Nat) (xs ys : List Value) (cutv v : Value) : List Value → World → Prop
  | [], W => Keep (ApT g v) W0 W ∧ Bk W g 84 (C v).toArray ∧ W.ownsRow base 47 18 v n xs
  | [u], W => u = v ∧ Keep (ApT g v) W0 W ∧ Bk W g 84 (C v).toArray ∧ W.ownsRow base 47 18 v n xs
  | [_, u], W => u = cutv ∧ Keep (ApT g v) W0 W ∧ Bk W g 84 (C v).toArray ∧ W.ownsRow base 47 18 v n xs
  | [_, _, u], W => Keep (ApT g v) W0 W ∧ Bk W g 84 (C v).toArray ∧ W.ownsRow base 47 18 u k ys ∧ Lies W0 v u
  | _ :: _ :: u :: _ :: _, W => Keep (ApT g v) W0 W ∧ Bk W g 84 (C u).toArray ∧ W.ownsRow base 47 18 u k ys ∧ Lies W0 v u
section
variable {W0 W W' : World} {base g n k : Nat} {C : Value → List Value} {xs ys vals : List Value} {cutv v u : Value}
theorem S8.keep (h : S8 W0 base g C n k xs ys cutv v vals W) : Keep (ApT g v) W0 W := by
  match vals, h with
  | [], h => exact h.1
  | [_], h => exact h.2.1
  | [_, _], h => exact h.2.1
  | [_, _, _], h => exact h.1
  | _ :: _ :: _ :: _ :: _, h => exact h.1
theorem own18 {m base : Nat} {x : Value} {zs : List Value} (h : W.ownsRow base 47 18 x m zs) (hb : Below W.heap.size W W') : W'.ownsRow base 47 18 x m zs :=
  (Keep.of_below (S := fun i => W.heap.size ≤ i) hb fun i _ h => h).own h fun i hi hh => by have := (h.lt i hi).2; omega
theorem S8.below (h : S8 W0 base g C n k xs ys cutv v vals W) (hb : Below W.heap.size W W') : S8 W0 base g C n k xs ys cutv v vals W' := by
  have hk : ∀ {T : Nat → Prop} (_ : Keep T W0 W), Keep T W0 W' := fun h => h.trans (Keep.of_below (S := fun i => W.heap.size ≤ i) hb fun i _ h => h) fun i hi hh => by have := h.size; omega
  match vals, h with
  | [], h => exact ⟨hk h.1, h.2.1.below hb h.2.1.lt, own18 h.2.2 hb⟩
  | [_], h => exact ⟨h.1, hk h.2.1, h.2.2.1.below hb h.2.2.1.lt, own18 h.2.2.2 hb⟩
  | [_, _], h => exact ⟨h.1, hk h.2.1, h.2.2.1.below hb h.2.2.1.lt, own18 h.2.2.2 hb⟩
  | [_, _, _], h => exact ⟨hk h.1, h.2.1.below hb h.2.1.lt, own18 h.2.2.1 hb, h.2.2.2⟩
  | _ :: _ :: _ :: _ :: _, h => exact ⟨hk h.1, h.2.1.below hb h.2.1.lt, own18 h.2.2.1 hb, h.2.2.2⟩
theorem S8.appended {x y u' : Value} {m : Nat} {zs : List Value} (h : S8 W0 base g C n k xs ys cutv v [x, y] W) (hcv : cutv.ownBlock = v.ownBlock) (hc : W.ownsRow base 47 18 cutv m zs) (hg : Grew W W' cutv u') (ho : W'.ownsRow base 47 18 u' k ys) : S8 W0 base g C n k xs ys cutv v [x, y, u'] W' ∧ Keep (ApT g v) W W' := by
  obtain ⟨-, hK, hb, hr⟩ := h; have hK2 : Keep (ApT g v) W W' := Keep.of_grew hg fun i hi => .inr (hcv ▸ hi.symm); refine ⟨⟨hK.trans hK2 fun _ _ hi => hi, hg.bk hc hb (by decide), ho, ?_⟩, hK2⟩
  rcases hg.lies with hl | ⟨j, hl, hj⟩
  · exact .inl (hl.trans hcv)
  · exact .inr ⟨j, hl, Nat.le_trans hK.size hj⟩
theorem S8.stored {x y u' z : Value} {i : Nat} (h : S8 W0 base g C n k xs ys cutv v [x, y, u'] W) (hC : (C v).set i u' = C u') : S8 W0 base g C n k xs ys cutv v [x, y, u', z] (W.setCell ⟨g, i, none⟩ u') ∧ Keep (ApT g v) W (W.setCell ⟨g, i, none⟩ u') := by
  obtain ⟨hK, hb, hr, hl⟩ := h; have h1 : Keep (fun i => i = g) W (W.setCell ⟨g, i, none⟩ u') := (Keep.refl (fun i => i = g) W).setCell (p := ⟨g, i, none⟩) (fun _ => rfl) u'; have h2 : Keep (ApT g v) W (W.setCell ⟨g, i, none⟩ u') := h1.mono fun i _ hi => .inl hi; refine ⟨⟨hK.trans h2 fun _ _ hi => hi, ?_, h1.own hr (fun i hi he => ?_), hl⟩, h2⟩
  · have := sf_bk (k := i) (u := u') hb
    rwa [hC] at this
  · subst he; exact own_ne hr hb (by decide) hi
end
end Go.Proofs.YtlaiocdnddnnaaaGreatDoor
