/- What holds in cashbookref7.SplitStreams: the rows while a substream is open; the midst of 'out[k].Recs = append(out[k].Recs, r)'. No condition. -/
import Derived.Test.YtifcdleibjnknaaSplit17
namespace Go.Proofs.Ytifcdleibjnknaa
open Go.RowKit

theorem own_set {w : World} {base k n g j : Nat} {e : TypeId} {v u : Value} {xs : List Value} (h : w.ownsRow base e k v n xs) (hg : v.ownBlock = some g) : (w.setCell ⟨g, j, none⟩ u).ownsRow base e k v n (xs.set j u) := by
  refine ⟨by rw [List.length_set]; exact h.1, ?_⟩
  rcases h.2 with ⟨rfl, _⟩ | ⟨g', cap, cur, rfl, hb, hh, hnc, hm, hs, ht⟩
  · cases hg
  · simp only [Value.ownBlock, Option.some.injEq] at hg
    subst hg
    refine .inr ⟨g', cap, cur.setIfInBounds j u, rfl, hb, ?_, hnc, hm, by simpa using hs, ?_⟩
    · have : Bk w g' e cur := hh
      exact this.set_ j u
    · rw [Array.toList_setIfInBounds, List.take_set, ht]

def Two (v vo : Value) (i : Nat) : Prop := Mine v i ∨ Mine vo i

structure OpenB (w : World) (v vo : Value) (done : List StreamM) (kind : Int) (recs : List RecM) (W : World) : Prop where
  ex : ∃ S : List (List Value × StreamM), S.map (·.2) = done ∧ (∀ p ∈ S, streamForm.R W (But W (Two v vo)) p.1 p.2) ∧ W.ownsRow w.heap.size 39 2 v (done.length + 1) (S.flatMap (·.1) ++ [.int .i64 kind, vo])
  own : OwnF recForm W (But W (Two v vo)) w.heap.size 52 vo recs

section
variable {w W0 W W' W1 w2 : World} {v vo v2 : Value} {done : List StreamM} {kind : Int} {recs L : List RecM} {vals : List Value}

theorem OpenB.below (h : OpenB w v vo done kind recs W) (hb : Below W.heap.size W W') : OpenB w v vo done kind recs W' := by
  obtain ⟨S, h1, h2, h3⟩ := h.ex
  exact ⟨⟨S, h1, fun p hp => streamForm.move (below_move hb (Nat.le_refl _)) (h2 p hp), own_below h3 hb⟩, h.own.below hb⟩

theorem OpenB.apart (h : OpenB w v vo done kind recs W) : (∀ i, Mine v i → w.heap.size ≤ i ∧ i < W.heap.size) ∧ (∀ i, Mine vo i → w.heap.size ≤ i ∧ i < W.heap.size) ∧ ∀ i, Mine v i → ¬ Mine vo i := by
  obtain ⟨S, h1, h2, h3⟩ := h.ex
  obtain ⟨S', _, _, h4⟩ := h.own.ex
  exact ⟨h3.lt, h4.lt, fun i => own_own_ne h3 h4 (by decide) i⟩

theorem OpenB.closed (h : OpenB w v vo done kind recs W) : OwnF streamForm W (But W (Mine v)) w.heap.size 39 v (done ++ [⟨kind, recs⟩]) := by
  obtain ⟨q1, q2, q3⟩ := h.apart
  obtain ⟨S, h1, h2, h3⟩ := h.ex
  have m0 : Move W (But W (Two v vo)) W (But W (Mine v)) := Move.wide fun i hi => ⟨hi.1, fun e => hi.2 (.inl e)⟩
  obtain ⟨A, c, rfl, hc, hrow⟩ := h.own.read (F' := But W (Mine v)) (fun i hi => ⟨(q2 i hi).2, fun e => q3 i e hi⟩) fun i hi => (m0 i hi).1
  exact OwnF.snoc h1 h2 m0 ⟨A, c, rfl, hc, hrow⟩ h3

/-- A new substream, without records. -/
theorem OpenB.opened {S : List (List Value × StreamM)} (h1 : S.map (·.2) = done) (h2 : ∀ p ∈ S, streamForm.R W (But W (Mine v)) p.1 p.2) (hb : Below W.heap.size W W1) (g : Grew W1 w2 v v2)
    (ho : w2.ownsRow w.heap.size 39 2 v2 (done.length + 1) (S.flatMap (·.1) ++ [.int .i64 kind, .slice none 0 0])) : OpenB w v2 (.slice none 0 0) done kind [] w2 := by
  refine ⟨⟨S, h1, fun p hp => streamForm.move (((below_move hb (Nat.le_refl _)).trans g.move).trans (Move.wide fun i hi => ⟨hi.1, fun e => ?_⟩)) (h2 p hp), ho⟩, OwnF.nil _ _ _ _ _⟩
  rcases e with e | e
  · exact hi.2 e
  · cases e

def New9 (w W0 : World) (v vo : Value) (L : List RecM) (v2 : Value) (W : World) : Prop := OwnF recForm W (But W (Two v v2)) w.heap.size 52 v2 L ∧ ∀ i, i < W0.heap.size → Mine v2 i → Mine vo i

def S9 (w W0 : World) (v vo : Value) (kind : Int) (n : Nat) (xs : List Value) (L : List RecM) : List Value → World → Prop
  | [], W => Keep (fun _ => False) W0 W
  | [u], W => u = vo ∧ Keep (fun _ => False) W0 W
  | [_, v2], W => Keep (Mine vo) W0 W ∧ New9 w W0 v vo L v2 W
  | _ :: v2 :: _ :: _, W => Keep (Two v vo) W0 W ∧ New9 w W0 v vo L v2 W ∧ W.ownsRow w.heap.size 39 2 v (n + 1) (xs ++ [.int .i64 kind, v2])

variable {n : Nat} {xs : List Value}
theorem S9.keep (h : S9 w W0 v vo kind n xs L vals W) : Keep (Two v vo) W0 W := by
  match vals, h with
  | [], h => exact Keep.mono h fun _ _ hf => hf.elim
  | [_], h => exact h.2.mono fun _ _ hf => hf.elim
  | [_, _], h => exact h.1.mono fun _ _ hf => .inr hf
  | _ :: _ :: _ :: _, h => exact h.1
theorem S9.size (h : S9 w W0 v vo kind n xs L vals W) : W0.heap.size ≤ W.heap.size := h.keep.size
theorem S9.below (h : S9 w W0 v vo kind n xs L vals W) (hb : Below W.heap.size W W') : S9 w W0 v vo kind n xs L vals W' := by
  have hs := h.size
  have hk : ∀ T : Nat → Prop, Keep T W0 W → Keep T W0 W' := fun T hK => hK.trans (T := fun i => W.heap.size ≤ i) (Keep.of_below hb fun i _ h => h) fun i hi h => by omega
  match vals, h with
  | [], h => exact hk _ h
  | [_], h => exact ⟨h.1, hk _ h.2⟩
  | [_, _], h => exact ⟨hk _ h.1, h.2.1.below hb, h.2.2⟩
  | _ :: _ :: _ :: _, h => exact ⟨hk _ h.1, ⟨h.2.1.1.below hb, h.2.1.2⟩, own_below h.2.2 hb⟩
theorem S9.box (h : S9 w W0 v vo kind n xs L vals W) {g : Nat} {t : TypeId} {cs : Array Value} (hk : Bk W0 g t cs) (hg : ∀ i, Two v vo i → i ≠ g) : Bk W g t cs := h.keep.bk hk fun e => hg g e rfl

theorem S9.appended {S : List (List Value × RecM)} {cs : List Value} {r : RecM} (hS1 : S.map (·.2) = recs) (hS2 : ∀ p ∈ S, recForm.R W0 (But W0 (Two v vo)) p.1 p.2) (hK : Keep (fun _ => False) W0 W)
    (g2 : Grew W w2 vo v2) (hr : recForm.R W0 (But W0 (Two v vo)) cs r) (o2 : w2.ownsRow w.heap.size 52 4 v2 (recs.length + 1) (S.flatMap (·.1) ++ cs)) : Keep (Mine vo) W0 w2 ∧ New9 w W0 v vo (recs ++ [r]) v2 w2 := by
  have hs := hK.size
  have hk2 : Keep (Mine vo) W w2 := Keep.of_grew g2 fun _ h => h.symm
  have hl : ∀ i, i < W.heap.size → Mine v2 i → Mine vo i := fun i hi h => by
    rcases g2.lies with hl | ⟨q, hl, hq⟩
    · exact hl.symm.trans h
    · rw [Mine, hl] at h; injection h with h; omega
  have m1 : Move W0 (But W0 (Two v vo)) W (But W (Two v vo)) := But.move hK (fun i _ h => h.elim) fun i _ h => h
  have m2 : Move W (But W (Two v vo)) w2 (But w2 (Two v v2)) := But.move hk2 (fun i _ h => .inr h) fun i hi h => h.imp id (hl i hi)
  exact ⟨(hK.mono fun _ _ h => h.elim).trans hk2 fun _ _ h => h, OwnF.snoc hS1 hS2 (m1.trans m2) (recForm.move (m1.trans m2) hr) o2, fun i hi h => hl i (by omega) h⟩

theorem set_last {xs : List Value} {n : Nat} {a b u : Value} (h : xs.length = n * 2) : (xs ++ [a, b]).set (n * 2 + 1) u = xs ++ [a, u] := by
  rw [List.set_append, if_neg (by omega), h, Nat.add_sub_cancel_left]
  rfl

theorem S9.stored {u u0 : Value} {A2 : Option Addr} {m c2 g : Nat} (h : S9 w W0 v vo kind n xs L [u, .slice A2 m c2] W) (hO : OpenB w v vo done kind recs W0) (ho : W0.ownsRow w.heap.size 39 2 v (n + 1) (xs ++ [.int .i64 kind, u0])) (hx : xs.length = n * 2) (hg : v.ownBlock = some g) :
    S9 w W0 v vo kind n xs L [u, .slice A2 m c2, undef] (W.setCell ⟨g, n * 2 + 1, none⟩ (.slice A2 m c2)) ∧ Keep (Two v vo) W (W.setCell ⟨g, n * 2 + 1, none⟩ (.slice A2 m c2)) := by
  obtain ⟨hK, hN, hl⟩ := h
  obtain ⟨q1, q2, q3⟩ := hO.apart
  have how : W.ownsRow w.heap.size 39 2 v (n + 1) (xs ++ [.int .i64 kind, u0]) := hK.own ho fun i hi e => q3 i hi e
  have kk : Keep (Mine v) W (W.setCell ⟨g, n * 2 + 1, none⟩ (.slice A2 m c2)) := Keep.setCell (S := Mine v) (Keep.refl _ _) (p := ⟨g, n * 2 + 1, none⟩) (fun _ => hg) _
  obtain ⟨S', _, _, h4⟩ := hN.ex
  refine ⟨⟨(hK.mono fun _ _ h => .inr h).trans kk fun _ _ h => .inl h, ⟨?_, hl⟩, ?_⟩, kk.mono fun _ _ h => .inl h⟩
  · exact hN.keep kk (fun i hi e => own_own_ne how h4 (by decide) i e hi) (But.move kk (fun i _ h => .inl h) fun i _ h => h)
  · have := own_set (u := .slice A2 m c2) how hg (j := n * 2 + 1)
    rwa [set_last hx] at this

theorem S9.fin {S : List (List Value × StreamM)} {u x : Value} (h : S9 w W0 v vo kind done.length (S.flatMap (·.1)) L [u, v2, x] W) (hS1 : S.map (·.2) = done) (hS2 : ∀ p ∈ S, streamForm.R W0 (But W0 (Two v vo)) p.1 p.2) : OpenB w v v2 done kind L W := by
  obtain ⟨hK, ⟨hN, hl⟩, ho⟩ := h
  exact ⟨⟨S, hS1, fun p hp => streamForm.move (But.move hK (fun i _ h => h) fun i hi h => h.imp id (hl i hi)) (hS2 p hp), ho⟩, hN⟩

/-- The row of one record, just made. -/
def Bl9 (base : Nat) (cs : Array Value) : Value → World → Prop := fun v W => ∃ g, v = .slice (some ⟨g, 0, none⟩) 1 1 ∧ base ≤ g ∧ Bk W g 52 cs
theorem bl9_stable {cs : Array Value} (hO : OpenB w v vo done kind recs W0) : Stable (fun W W' => Keep (Two v vo) W W') (Bl9 W0.heap.size cs) := fun _ _ _ hE h => by
  obtain ⟨g, rfl, h0, hk⟩ := h
  obtain ⟨q1, q2, q3⟩ := hO.apart
  refine ⟨g, rfl, h0, Keep.bk hE hk fun e => ?_⟩
  rcases e with e | e
  · have := (q1 g e).2; omega
  · have := (q2 g e).2; omega
end
end Go.Proofs.Ytifcdleibjnknaa
