/- What holds in the midst of sub.Split's 'open.Recs = append(open.Recs, clone(l[i], l[i].At))', by how much of it has been done. No condition. -/
import Derived.Test.YtliidkampllddaaSplit0
import Derived.Test.YtliidkampllddaaPhase
namespace Go.Proofs.Ytliidkampllddaa
open Go.RowKit

theorem recForm_own2 {w : World} {base : Nat} {F : Nat → Prop} {dv cv : Value} {r : RecM} (hd : w.ownsRow base 5 1 dv r.data.length (r.data.map bv)) (hc : w.ownsRow base 3 1 cv r.cuts.length (r.cuts.map iv)) (hf : Fit r.type)
    (hF : ∀ i, base ≤ i → i < w.heap.size → F i) (h1 : r.data.length ≤ 1000000000000000000) (h2 : r.cuts.length ≤ 1000000000000000000) : recForm.R w F [.int .i64 r.type, dv, cv, .int .i64 r.at_] r := by
  obtain ⟨D, dc, rfl, hdc, rd⟩ := own_rdF (F := F) hd fun i hi => hF i (hd.lt i hi).1 (hd.lt i hi).2
  obtain ⟨C, cc, rfl, hcc, rc⟩ := own_rdF (F := F) hc fun i hi => hF i (hc.lt i hi).1 (hc.lt i hi).2
  exact ⟨D, dc, C, cc, rfl, rd, rc, ⟨hdc, h1⟩, ⟨hcc, h2⟩, hf⟩

theorem OwnF.below {α : Type} {f : Form α} {W W' : World} {M : Nat → Prop} {base : Nat} {e : TypeId} {v : Value} {L : List α} (h : OwnF f W (But W M) base e v L) (hb : Below W.heap.size W W') : OwnF f W' (But W' M) base e v L :=
  h.keep (T := fun i => W.heap.size ≤ i) (Keep.of_below hb fun i _ h => h) (fun i hi hh => by have := (h.lt i hi).2; omega) (below_move hb (Nat.le_refl _))

theorem SpW.below {w W W' : World} {M : Nat → Prop} {vd : Value} {done : List StreamM} {u0 u1 : Value} (h : SpW w M vd done u0 u1 W) (hb : Below W.heap.size W W') : SpW w M vd done u0 u1 W' :=
  ⟨h.bel.trans (hb.mono h.bel.size), h.box.below hb h.box.lt, h.own.below hb, h.few⟩

theorem lands_app {P : Program} {w : World} {t e size bytes m c n base B : Nat} {z v : Value} {A : Option Addr} {xs news : List Value} {S : World → Prop} {F : World → World → Prop} {R : Value → World → Prop} {o : Oper} {a : Act} (E : ElemRow P t e z size bytes) (s x : Operand)
    (ho : o.op = .call { callee := .builtin .append, args := #[s, x], argTypes := #[t, t] })
    (hs : a.eval s = v) (hx : a.eval x = .slice A m c) (hown : w.ownsRow base e size v n xs) (hr : Rd w B size A m news) (h1 : ∀ u ∈ news, u.oneCell' = true)
    (h63 : n + m ≤ maxLen) (hbytes : (n + m) * bytes ≤ 140737488355328) (hbase : base ≤ w.heap.size)
    (h : ∀ v' w', w'.ownsRow base e size v' (n + m) (xs ++ news) → Grew w w' v v' → R v' w' ∧ S w' ∧ F w w') :
    Lands P S F R w ((execOp a.eval o).run P w) := by
  obtain ⟨v', w', hrun, h2, h3, h4⟩ := run_app (ty := o.type) (c := c) E hown hr h1 h63 hbytes hbase
  unfold execOp
  simp only [ho, resolve, invoke, builtin, Sem.run_bind, Sem.run_pure, Result.andThen_ok, List.map_toArray, List.map_cons, List.map_nil, hs, hx, hrun]
  exact h v' w' h2 ⟨h3, h4.imp id fun h => ⟨_, h, Nat.le_refl _⟩⟩

theorem bk_rd {W : World} {g k n : Nat} {t : TypeId} {cs : List Value} (h : Bk W g t cs.toArray) (hk : cs.length = n * k) : Rd W W.heap.size k (some ⟨g, 0, none⟩) n cs := by
  refine ⟨hk, fun _ => ⟨_, rfl, h.lt, fun j u hu => ?_⟩⟩
  rw [addr_zero, h.cell]
  simpa using hu

def New17 (w W0 : World) (vd vo : Value) (L : List RecM) (v : Value) (W : World) : Prop := OwnF recForm W (But W (Open w vd v)) (w.heap.size + 1) 49 v L ∧ ∀ i, i < W0.heap.size → Mine v i → Mine vo i

def S17 (w W0 : World) (vd vo : Value) (kind : Int) (L : List RecM) : List Value → World → Prop
  | [], W => Keep (fun _ => False) W0 W
  | [u], W => u = vo ∧ Keep (fun _ => False) W0 W
  | [_, v], W => Keep (Mine vo) W0 W ∧ New17 w W0 vd vo L v W
  | _ :: v :: _ :: _, W => Keep (fun i => i = w.heap.size ∨ Mine vo i) W0 W ∧ New17 w W0 vd vo L v W ∧ Bk W w.heap.size 41 #[.int .i64 kind, v]

section
variable {w W0 W W' : World} {vd vo : Value} {kind : Int} {L : List RecM} {vals : List Value}
theorem New17.below {v : Value} (h : New17 w W0 vd vo L v W) (hb : Below W.heap.size W W') : New17 w W0 vd vo L v W' := ⟨h.1.below hb, h.2⟩

theorem S17.keep (h : S17 w W0 vd vo kind L vals W) : Keep (fun i => i = w.heap.size ∨ Mine vo i) W0 W := by
  match vals, h with
  | [], h => exact Keep.mono h fun _ _ hf => hf.elim
  | [_], h => exact h.2.mono fun _ _ hf => hf.elim
  | [_, _], h => exact h.1.mono fun _ _ hf => .inr hf
  | _ :: _ :: _ :: _, h => exact h.1
theorem S17.size (h : S17 w W0 vd vo kind L vals W) : W0.heap.size ≤ W.heap.size := h.keep.size
theorem S17.bel (h : S17 w W0 vd vo kind L vals W) (hlt : ∀ i, Mine vo i → w.heap.size + 1 ≤ i ∧ i < W0.heap.size) (hg : w.heap.size < W0.heap.size) : Below w.heap.size W0 W :=
  h.keep.below (by omega) fun i hi e => by
    rcases e with rfl | e
    · omega
    · have := (hlt i e).1; omega
theorem S17.below (h : S17 w W0 vd vo kind L vals W) (hb : Below W.heap.size W W') : S17 w W0 vd vo kind L vals W' := by
  have hs := h.size
  have hk : ∀ T : Nat → Prop, Keep T W0 W → Keep T W0 W' := fun T hK => hK.trans (T := fun i => W.heap.size ≤ i) (Keep.of_below hb fun i _ h => h) fun i hi h => by omega
  match vals, h with
  | [], h => exact hk _ h
  | [_], h => exact ⟨h.1, hk _ h.2⟩
  | [_, _], h => exact ⟨hk _ h.1, h.2.below hb⟩
  | _ :: _ :: _ :: _, h => exact ⟨hk _ h.1, h.2.1.below hb, h.2.2.below hb h.2.2.lt⟩
theorem S17.cells (h : S17 w W0 vd vo kind L vals W) (hlt : ∀ i, Mine vo i → w.heap.size + 1 ≤ i ∧ i < W0.heap.size) (hg : w.heap.size < W0.heap.size) {p : Addr} (hp : p.block < w.heap.size) {v0 v1 v2 v3 : Value}
    (x0 : W0.cell? p = some v0) (x1 : W0.cell? ⟨p.block, p.off + 1, none⟩ = some v1) (x2 : W0.cell? ⟨p.block, p.off + 2, none⟩ = some v2) (x3 : W0.cell? ⟨p.block, p.off + 3, none⟩ = some v3) :
    W.cell? p = some v0 ∧ W.cell? ⟨p.block, p.off + 1, none⟩ = some v1 ∧ W.cell? ⟨p.block, p.off + 2, none⟩ = some v2 ∧ W.cell? ⟨p.block, p.off + 3, none⟩ = some v3 := by
  have hb := h.bel hlt hg
  exact ⟨(hb.cell (p := p) hp).trans x0, (hb.cell (p := ⟨p.block, p.off + 1, none⟩) hp).trans x1, (hb.cell (p := ⟨p.block, p.off + 2, none⟩) hp).trans x2, (hb.cell (p := ⟨p.block, p.off + 3, none⟩) hp).trans x3⟩

theorem S17.appended {w2 : World} {base : Nat} {S : List (List Value × RecM)} {recs : List RecM} {v2 dv cv : Value} {r : RecM} (hS1 : S.map (·.2) = recs) (hS2 : ∀ p ∈ S, recForm.R W0 (But W0 (Open w vd vo)) p.1 p.2) (hK : Keep (fun _ => False) W0 W)
    (g2 : Grew W w2 vo v2) (hlt : ∀ i, Mine vo i → w.heap.size + 1 ≤ i ∧ i < W0.heap.size) (hltd : ∀ i, Mine vd i → i < W0.heap.size) (hg : w.heap.size < W0.heap.size) (hb : base = W0.heap.size)
    (od : W.ownsRow base 5 1 dv r.data.length (r.data.map bv)) (oc : W.ownsRow base 3 1 cv r.cuts.length (r.cuts.map iv)) (hf : Fit r.type) (h1 : r.data.length ≤ 1000000000000000000) (h2 : r.cuts.length ≤ 1000000000000000000)
    (o2 : w2.ownsRow (w.heap.size + 1) 49 4 v2 (recs.length + 1) (S.flatMap (·.1) ++ [.int .i64 r.type, dv, cv, .int .i64 r.at_])) : Keep (Mine vo) W0 w2 ∧ New17 w W0 vd vo (recs ++ [r]) v2 w2 := by
  subst hb
  have hs := hK.size
  have hk2 : Keep (Mine vo) W w2 := Keep.of_grew g2 fun _ h => h.symm
  have hl : ∀ i, i < W.heap.size → Mine v2 i → Mine vo i := fun i hi h => by
    rcases g2.lies with hl | ⟨q, hl, hq⟩
    · exact hl.symm.trans h
    · rw [Mine, hl] at h; injection h with h; omega
  have m1 : Move W0 (But W0 (Open w vd vo)) W (But W (Open w vd vo)) := But.move hK (fun i _ h => h.elim) fun i _ h => h
  have m2 : Move W (But W (Open w vd vo)) w2 (But w2 (Open w vd v2)) := But.move hk2 (fun i _ h => .inr (.inr h)) fun i hi h => h.imp id fun h => h.imp id fun h => hl i hi h
  refine ⟨(hK.mono fun _ _ h => h.elim).trans hk2 fun _ _ h => h, ?_, fun i hi h => hl i (by omega) h⟩
  refine OwnF.snoc hS1 hS2 (m1.trans m2) (recForm.move m2 (recForm_own2 od oc hf (fun i h3 h4 => ⟨h4, fun h => ?_⟩) h1 h2)) o2
  rcases h with rfl | h | h
  · omega
  · have := hltd i h; omega
  · have := (hlt i h).2; omega

theorem S17.stored {u : Value} {A2 : Option Addr} {m c2 : Nat} (h : S17 w W0 vd vo kind L [u, .slice A2 m c2] W) (hb : Bk W0 w.heap.size 41 #[.int .i64 kind, vo]) (hlt : ∀ i, Mine vo i → w.heap.size + 1 ≤ i ∧ i < W0.heap.size) :
    S17 w W0 vd vo kind L [u, .slice A2 m c2, undef] (W.setCell ⟨w.heap.size, 1, none⟩ (.slice A2 m c2)) ∧ Keep (fun i => i = w.heap.size ∨ Mine vo i) W (W.setCell ⟨w.heap.size, 1, none⟩ (.slice A2 m c2)) := by
  obtain ⟨hK, hN, hl⟩ := h
  have hbW : Bk W w.heap.size 41 #[.int .i64 kind, vo] := hK.bk hb fun h => by have := (hlt _ h).1; omega
  have kk : Keep (fun i => i = w.heap.size) W (W.setCell ⟨w.heap.size, 1, none⟩ (.slice A2 m c2)) := Keep.setCell (S := fun i => i = w.heap.size) (Keep.refl _ _) (p := ⟨w.heap.size, 1, none⟩) (fun _ => rfl) _
  refine ⟨⟨(hK.mono fun _ _ h => .inr h).trans kk fun _ _ h => .inl h, ⟨?_, hl⟩, ?_⟩, kk.mono fun _ _ h => .inl h⟩
  · exact hN.keep kk (fun i hi h => by have := (hN.lt i hi).1; omega) (But.move kk (fun i _ h => .inl h) fun i _ h => h)
  · have := hbW.set_ 1 (.slice A2 m c2)
    simpa using this

/-- The clone, as it is made; the row of it alone. -/
def Cl17 (base : Nat) (r : RecM) : Value → World → Prop := fun v W => ∃ D dc C cc, v = .agg #[.int .i64 r.type, .slice D r.data.length dc, .slice C r.cuts.length cc, .int .i64 r.at_] ∧
  W.ownsRow base 5 1 (.slice D r.data.length dc) r.data.length (r.data.map bv) ∧ W.ownsRow base 3 1 (.slice C r.cuts.length cc) r.cuts.length (r.cuts.map iv)
def Bl17 (base : Nat) (r : RecM) : Value → World → Prop := fun v W => ∃ g D dc C cc, v = .slice (some ⟨g, 0, none⟩) 1 1 ∧ base ≤ g ∧ Bk W g 49 #[.int .i64 r.type, .slice D r.data.length dc, .slice C r.cuts.length cc, .int .i64 r.at_] ∧
  W.ownsRow base 5 1 (.slice D r.data.length dc) r.data.length (r.data.map bv) ∧ W.ownsRow base 3 1 (.slice C r.cuts.length cc) r.cuts.length (r.cuts.map iv)

def E17 (w : World) (vo : Value) (W W' : World) : Prop := Keep (fun i => i = w.heap.size ∨ Mine vo i) W W'

theorem E17.own {n : Nat} {e : TypeId} {v : Value} {xs : List Value} (hE : E17 w vo W W') (hlt : ∀ i, Mine vo i → w.heap.size + 1 ≤ i ∧ i < W0.heap.size) (hg : w.heap.size < W0.heap.size) (h : W.ownsRow W0.heap.size e 1 v n xs) : W'.ownsRow W0.heap.size e 1 v n xs :=
  Keep.own hE h fun i hi he => by
    have := (h.lt i hi).1
    rcases he with rfl | he
    · omega
    · have := (hlt i he).2; omega
theorem cl17_stable {r : RecM} (hlt : ∀ i, Mine vo i → w.heap.size + 1 ≤ i ∧ i < W0.heap.size) (hg : w.heap.size < W0.heap.size) : Stable (E17 w vo) (Cl17 W0.heap.size r) := fun _ _ _ hE h => by
  obtain ⟨D, dc, C, cc, rfl, h1, h2⟩ := h
  exact ⟨D, dc, C, cc, rfl, hE.own hlt hg h1, hE.own hlt hg h2⟩
theorem bl17_stable {r : RecM} (hlt : ∀ i, Mine vo i → w.heap.size + 1 ≤ i ∧ i < W0.heap.size) (hg : w.heap.size < W0.heap.size) : Stable (E17 w vo) (Bl17 W0.heap.size r) := fun _ _ _ hE h => by
  obtain ⟨g, D, dc, C, cc, rfl, h0, hk, h1, h2⟩ := h
  refine ⟨g, D, dc, C, cc, rfl, h0, Keep.bk hE hk fun he => ?_, hE.own hlt hg h1, hE.own hlt hg h2⟩
  rcases he with rfl | he
  · omega
  · have := (hlt g he).2; omega

/-- What it comes to. -/
theorem S17.done {done : List StreamM} {recs : List RecM} {u v x : Value} (h : S17 w W0 vd vo kind L [u, v, x] W) (hW : SpW w (Open w vd vo) vd done (.int .i64 kind) vo W0) (hO : OwnF recForm W0 (But W0 (Open w vd vo)) (w.heap.size + 1) 49 vo recs) :
    SpW w (Open w vd v) vd done (.int .i64 kind) v W ∧ OwnF recForm W (But W (Open w vd v)) (w.heap.size + 1) 49 v L := by
  obtain ⟨hK, ⟨hN, hl⟩, hb⟩ := h
  have hlt := hO.lt
  obtain ⟨S1, _, _, o1⟩ := hW.own.ex
  obtain ⟨S2, _, _, o2⟩ := hO.ex
  refine ⟨⟨hW.bel.trans (hK.below (by have := hW.box.lt; omega) fun i hi e => ?_), hb, hW.own.keep hK (fun i hi e => ?_) ?_, hW.few⟩, hN⟩
  · rcases e with rfl | e
    · omega
    · have := (hlt i e).1; omega
  · rcases e with rfl | e
    · have := (hW.own.lt _ hi).1; omega
    · exact own_own_ne o1 o2 (by decide) i hi e
  · exact But.move hK (fun i _ h => h.imp id .inr) fun i hi h => h.imp id fun h => h.imp id (hl i hi)

/-- The open substream put behind the others. -/
theorem SpW.closed {W1 w2 : World} {done : List StreamM} {recs : List RecM} {v2 u0 u1 : Value} {S : List (List Value × StreamM)} (h : SpW w (Open w vd vo) vd done u0 u1 W0) (hO : OwnF recForm W0 (But W0 (Open w vd vo)) (w.heap.size + 1) 49 vo recs)
    (hS1 : S.map (·.2) = done) (hS2 : ∀ p ∈ S, streamForm.R W0 (But W0 (Open w vd vo)) p.1 p.2) (hb : Below W0.heap.size W0 W1) (g : Grew W1 w2 vd v2)
    (o2 : w2.ownsRow (w.heap.size + 1) 41 2 v2 (done.length + 1) (S.flatMap (·.1) ++ [.int .i64 kind, vo])) (h8 : done.length ≤ 8) : SpW w (Open w v2 (.slice none 0 0)) v2 (done ++ [⟨kind, recs⟩]) u0 u1 w2 := by
  have hltd := h.own.lt
  have hlto := hO.lt
  have hg := h.box.lt
  have hs := hb.size
  obtain ⟨S1, _, _, oo1⟩ := h.own.ex
  obtain ⟨S2, _, _, oo2⟩ := hO.ex
  have hk2 : Keep (Mine vd) W1 w2 := Keep.of_grew g fun _ h => h.symm
  have hl : ∀ i, i < W1.heap.size → Open w v2 (.slice none 0 0) i → i = w.heap.size ∨ Mine vd i := fun i hi h => by
    rcases h with h | h | h
    · exact .inl h
    · rcases g.lies with hl | ⟨q, hl, hq⟩
      · exact .inr (hl.symm.trans h)
      · rw [Mine, hl] at h; injection h with h; omega
    · cases h
  have hb1 : Below w.heap.size W0 W1 := hb.mono (by omega)
  have m0 : ∀ M : Nat → Prop, (∀ i, Mine vd i → M i) → (∀ i, i = w.heap.size ∨ Mine vd i → M i) → Move W0 (But W0 M) w2 (But w2 (Open w v2 (.slice none 0 0))) := fun M h1 h2 =>
    (below_move hb (Nat.le_refl _)).trans (But.move hk2 (fun i _ h => h1 i h) fun i hi h => h2 i (hl i hi h))
  refine ⟨(h.bel.trans hb1).trans (hk2.below (by omega) fun i hi e => by have := (hltd i e).1; omega), hk2.bk (h.box.below hb hg) (fun e => by have := (hltd _ e).1; omega), ?_, by simp; omega⟩
  obtain ⟨A, c, rfl, hc, hrow⟩ := hO.read (F' := But W0 fun j => j = w.heap.size ∨ Mine vd j) (fun i hi => ⟨(hlto i hi).2, fun e => by
    rcases e with rfl | e
    · have := (hlto _ hi).1; omega
    · exact own_own_ne oo2 oo1 (by decide) i hi e⟩) fun i hi => ⟨hi.1, fun e => hi.2 (e.imp id .inl)⟩
  refine OwnF.snoc hS1 hS2 (m0 _ (fun i h => .inr (.inl h)) fun i h => h.imp id .inl) ?_ o2
  exact ⟨A, c, rfl, hc, hrow.move (m0 _ (fun i h => .inr h) fun i h => h)⟩
end
end Go.Proofs.Ytliidkampllddaa
