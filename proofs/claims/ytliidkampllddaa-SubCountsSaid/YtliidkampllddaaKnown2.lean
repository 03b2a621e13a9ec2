/- cashbooklaw2.known by its contract: it returns true, and nothing that was there has turned. No condition. -/
import Derived.Test.YtliidkampllddaaSplit
import Derived.Test.YtliidkampllddaaJoin
import Derived.Test.YtliidkampllddaaSettle
namespace Go.Proofs.Ytliidkampllddaa
open Go.RowKit

theorem RowF.flat {α : Type} {f : Form α} {w : World} {F : Nat → Prop} {A : Option Addr} {n : Nat} {L : List α} {S : List (List Value × α)} (h1 : S.map (·.2) = L) (h2 : ∀ p ∈ S, f.R w F p.1 p.2) (hr : RdF w F f.k A n (S.flatMap (·.1))) (hn : L.length = n) : RowF f w F A n L := by
  refine ⟨hn, fun h0 => ?_⟩
  obtain ⟨a, rfl, hb, hcell⟩ := hr.at_ h0
  refine ⟨a, rfl, hb, fun i x hi => ?_⟩
  rw [← h1, List.getElem?_map, Option.map_eq_some_iff] at hi
  obtain ⟨p, hp, rfl⟩ := hi
  exact ⟨p.1, h2 p (List.mem_of_getElem? hp), fun j u hu => hcell _ u (flat_get (fun q hq => f.len (h2 q hq)) hp hu)⟩

def kA : RecM := ⟨2057, [5, 1], [], 0⟩
def kB : RecM := ⟨7, [], [], 6⟩
def kC : RecM := ⟨10, [], [], 10⟩
def kD : RecM := ⟨2057, [0, 0], [], 14⟩
def kE : RecM := ⟨10, [], [], 20⟩
def kL : List RecM := [kA, kB, kC, kD, kE]

theorem k_split : splitM [] none kL = ([⟨261, [kB]⟩, ⟨0, []⟩], 0, 0) := by rfl
theorem k_join : joinM [⟨261, [kB]⟩, ⟨0, []⟩] = ([kA, at0 kB, at0 kC, ⟨2057, [0, 0], [], 0⟩, ⟨10, [], [], 0⟩], 0) := by rfl
theorem k_split4 : splitM [] none [kA, kB, kC, kD] = ([], 14, 5) := by rfl
theorem k_split1 : splitM [] none [kB, kC, kD, kE] = ([], 6, 6) := by rfl
theorem k_split03 : splitM [] none [kA, kD] = ([], 14, 6) := by rfl
theorem k_split9 : splitM [] none [⟨2057, [], [], 9⟩] = ([], 9, 2) := by rfl

theorem rd_nil {w : World} {F : Nat → Prop} {k : Nat} {A : Option Addr} : RdF w F k A 0 [] := ⟨by simp, fun h => absurd h (by omega)⟩
theorem rec_nil {w : World} {F : Nat → Prop} {t at_ : Int} (h : Fit t) : recForm.R w F [.int .i64 t, .slice none 0 0, .slice none 0 0, .int .i64 at_] ⟨t, [], [], at_⟩ :=
  ⟨none, 0, none, 0, rfl, rd_nil, rd_nil, ⟨by simp, by simp⟩, ⟨by simp, by simp⟩, h⟩
theorem rec_two {w : World} {B g : Nat} {t at_ : Int} {x y : UInt8} (h : Fit t) (hk : Bk w g 5 #[bv x, bv y]) (hg : g < B) : recForm.R w (· < B) [.int .i64 t, .slice (some ⟨g, 0, none⟩) 2 2, .slice none 0 0, .int .i64 at_] ⟨t, [x, y], [], at_⟩ := by
  refine ⟨_, _, none, 0, rfl, ⟨by simp, fun _ => ⟨_, rfl, hg, fun j u hu => ?_⟩⟩, rd_nil, ⟨by simp, by simp⟩, ⟨by simp, by simp⟩, h⟩
  rw [addr_zero, hk.cell]
  simpa using hu

theorem recForm_rd {w : World} {B : Nat} {r : RecM} {t a : Value} {D C : Option Addr} {dn dc cn cc : Nat} (h : recForm.R w (· < B) [t, .slice D dn dc, .slice C cn cc, a] r) : RecRd w B r D dc C cc := by
  obtain ⟨D', dc', C', cc', e, h1, h2, h3, h4, h5⟩ := h
  simp only [List.cons.injEq, Value.slice.injEq, and_true] at e
  obtain ⟨_, ⟨rfl, _, rfl⟩, ⟨rfl, _, rfl⟩, _⟩ := e
  exact ⟨h1.rd fun i hi => hi, h2.rd fun i hi => hi, h3, h4, h5⟩

/-- The five records as they are laid. -/
theorem k_laid (w : World) : ∃ W, W = ((w.alloc (.cells #[.int .u8 5, .int .u8 1] 5)).alloc (.cells #[.int .u8 0, .int .u8 0] 5)).alloc (.cells #[.int .i64 2057, .slice (some ⟨w.heap.size, 0, none⟩) 2 2, .slice none 0 0, .int .i64 0,
      .int .i64 7, .slice none 0 0, .slice none 0 0, .int .i64 6, .int .i64 10, .slice none 0 0, .slice none 0 0, .int .i64 10, .int .i64 2057, .slice (some ⟨w.heap.size + 1, 0, none⟩) 2 2, .slice none 0 0, .int .i64 14, .int .i64 10, .slice none 0 0, .slice none 0 0, .int .i64 20] 49) ∧
    W.heap.size = w.heap.size + 3 ∧ Below w.heap.size w W ∧ RowF recForm W (· < W.heap.size) (some ⟨w.heap.size + 2, 0, none⟩) 5 kL ∧ Bk W (w.heap.size + 2) 49 #[.int .i64 2057, .slice (some ⟨w.heap.size, 0, none⟩) 2 2, .slice none 0 0, .int .i64 0,
      .int .i64 7, .slice none 0 0, .slice none 0 0, .int .i64 6, .int .i64 10, .slice none 0 0, .slice none 0 0, .int .i64 10, .int .i64 2057, .slice (some ⟨w.heap.size + 1, 0, none⟩) 2 2, .slice none 0 0, .int .i64 14, .int .i64 10, .slice none 0 0, .slice none 0 0, .int .i64 20] ∧ recForm.R W (· < W.heap.size) [.int .i64 2057, .slice (some ⟨w.heap.size, 0, none⟩) 2 2, .slice none 0 0, .int .i64 0] kA ∧ recForm.R W (· < W.heap.size) [.int .i64 2057, .slice (some ⟨w.heap.size + 1, 0, none⟩) 2 2, .slice none 0 0, .int .i64 14] kD := by
  refine ⟨_, rfl, by simp, ((((Below.refl _ _).alloc (Nat.le_refl _) _).alloc (by simp) _).alloc (by simp; omega) _), ?_⟩
  have b0 : Bk (((w.alloc (.cells #[.int .u8 5, .int .u8 1] 5)).alloc (.cells #[.int .u8 0, .int .u8 0] 5)).alloc (.cells #[.int .i64 2057, .slice (some ⟨w.heap.size, 0, none⟩) 2 2, .slice none 0 0, .int .i64 0,
      .int .i64 7, .slice none 0 0, .slice none 0 0, .int .i64 6, .int .i64 10, .slice none 0 0, .slice none 0 0, .int .i64 10, .int .i64 2057, .slice (some ⟨w.heap.size + 1, 0, none⟩) 2 2, .slice none 0 0, .int .i64 14, .int .i64 10, .slice none 0 0, .slice none 0 0, .int .i64 20] 49)) w.heap.size 5 #[bv 5, bv 1] := ((Bk.new w _ _).alloc _).alloc _
  have b1 : Bk (((w.alloc (.cells #[.int .u8 5, .int .u8 1] 5)).alloc (.cells #[.int .u8 0, .int .u8 0] 5)).alloc (.cells #[.int .i64 2057, .slice (some ⟨w.heap.size, 0, none⟩) 2 2, .slice none 0 0, .int .i64 0,
      .int .i64 7, .slice none 0 0, .slice none 0 0, .int .i64 6, .int .i64 10, .slice none 0 0, .slice none 0 0, .int .i64 10, .int .i64 2057, .slice (some ⟨w.heap.size + 1, 0, none⟩) 2 2, .slice none 0 0, .int .i64 14, .int .i64 10, .slice none 0 0, .slice none 0 0, .int .i64 20] 49)) (w.heap.size + 1) 5 #[bv 0, bv 0] := by
    have := (Bk.new (w.alloc (.cells #[.int .u8 5, .int .u8 1] 5)) 5 #[bv 0, bv 0]).alloc (.cells #[.int .i64 2057, .slice (some ⟨w.heap.size, 0, none⟩) 2 2, .slice none 0 0, .int .i64 0,
      .int .i64 7, .slice none 0 0, .slice none 0 0, .int .i64 6, .int .i64 10, .slice none 0 0, .slice none 0 0, .int .i64 10, .int .i64 2057, .slice (some ⟨w.heap.size + 1, 0, none⟩) 2 2, .slice none 0 0, .int .i64 14, .int .i64 10, .slice none 0 0, .slice none 0 0, .int .i64 20] 49)
    rwa [show (w.alloc (.cells #[.int .u8 5, .int .u8 1] 5)).heap.size = w.heap.size + 1 by simp] at this
  have b2 := Bk.new ((w.alloc (.cells #[.int .u8 5, .int .u8 1] 5)).alloc (.cells #[.int .u8 0, .int .u8 0] 5)) 49 #[.int .i64 2057, .slice (some ⟨w.heap.size, 0, none⟩) 2 2, .slice none 0 0, .int .i64 0,
      .int .i64 7, .slice none 0 0, .slice none 0 0, .int .i64 6, .int .i64 10, .slice none 0 0, .slice none 0 0, .int .i64 10, .int .i64 2057, .slice (some ⟨w.heap.size + 1, 0, none⟩) 2 2, .slice none 0 0, .int .i64 14, .int .i64 10, .slice none 0 0, .slice none 0 0, .int .i64 20]
  rw [show ((w.alloc (.cells #[.int .u8 5, .int .u8 1] 5)).alloc (.cells #[.int .u8 0, .int .u8 0] 5)).heap.size = w.heap.size + 2 by simp] at b2
  have f7 : Fit 7 := by simp [Fit]
  have f10 : Fit 10 := by simp [Fit]
  have fb : Fit 2057 := by simp [Fit]
  refine ⟨?_, b2, rec_two fb b0 b0.lt, rec_two fb b1 b1.lt⟩
  refine RowF.flat (S := [([.int .i64 2057, .slice (some ⟨w.heap.size, 0, none⟩) 2 2, .slice none 0 0, .int .i64 0], kA), ([.int .i64 7, .slice none 0 0, .slice none 0 0, .int .i64 6], kB), ([.int .i64 10, .slice none 0 0, .slice none 0 0, .int .i64 10], kC),
    ([.int .i64 2057, .slice (some ⟨w.heap.size + 1, 0, none⟩) 2 2, .slice none 0 0, .int .i64 14], kD), ([.int .i64 10, .slice none 0 0, .slice none 0 0, .int .i64 20], kE)]) rfl ?_ ((bk_rd (k := 4) (n := 5) b2 rfl).rdF fun i hi => hi) rfl
  intro p hp
  simp only [List.mem_cons, List.not_mem_nil, or_false] at hp
  rcases hp with rfl | rfl | rfl | rfl | rfl
  · exact rec_two fb b0 b0.lt
  · exact rec_nil f7
  · exact rec_nil f10
  · exact rec_two fb b1 b1.lt
  · exact rec_nil f10

theorem kL_wide : ∀ r ∈ kL, Wide r := by
  intro r hr
  simp only [kL, List.mem_cons, List.not_mem_nil, or_false] at hr
  rcases hr with rfl | rfl | rfl | rfl | rfl <;> simp [Wide, kA, kB, kC, kD, kE]

theorem streams_two {w : World} {F : Nat → Prop} {base : Nat} {e : TypeId} {v : Value} {s0 s1 : StreamM} (h : OwnF streamForm w F base e v [s0, s1]) (hF : ∀ i, F i → i < w.heap.size) : ∃ g cap A0 c0 A1 c1, v = .slice (some ⟨g, 0, none⟩) 2 cap ∧ 2 ≤ cap ∧ g < w.heap.size ∧
    w.cell? ⟨g, 0, none⟩ = some (.int .i64 s0.kind) ∧ w.cell? ⟨g, 1, none⟩ = some (.slice A0 s0.recs.length c0) ∧ w.cell? ⟨g, 2, none⟩ = some (.int .i64 s1.kind) ∧ w.cell? ⟨g, 3, none⟩ = some (.slice A1 s1.recs.length c1) ∧
    RecsRd w w.heap.size A0 s0.recs.length s0.recs ∧ RecsRd w w.heap.size A1 s1.recs.length s1.recs := by
  obtain ⟨S, h1, h2, ho⟩ := h.ex
  match S, h1 with
  | [(x0, t0), (x1, t1)], h1 =>
    simp only [List.map_cons, List.map_nil, List.cons.injEq, and_true] at h1
    obtain ⟨rfl, rfl⟩ := h1
    obtain ⟨A0, c0, e0, _, r0⟩ := h2 (x0, t0) (by simp)
    obtain ⟨A1, c1, e1, _, r1⟩ := h2 (x1, t1) (by simp)
    simp only at e0 e1 r0 r1
    subst e0 e1
    rcases ho.2 with ⟨_, h0⟩ | ⟨g, cap, cur, rfl, hb, hg, hnc, _⟩
    · simp at h0
    · have hc := ho.cells (g := g) rfl
      refine ⟨g, cap, A0, c0, A1, c1, rfl, hnc, (Array.getElem?_eq_some_iff.1 hg).1, ?_, ?_, ?_, ?_, (r0.move (Move.wide hF)).recs, (r1.move (Move.wide hF)).recs⟩
      · have := hc 0 _ rfl; rwa [addr_zero] at this
      · have := hc 1 _ rfl; rwa [addr_zero] at this
      · have := hc 2 _ rfl; rwa [addr_zero] at this
      · have := hc 3 _ rfl; rwa [addr_zero] at this

/-- The first two of a row of records. -/
theorem recs_cells {w : World} {F : Nat → Prop} {base : Nat} {e : TypeId} {v : Value} {r0 r1 : RecM} {L : List RecM} (h : OwnF recForm w F base e v (r0 :: r1 :: L)) (hF : ∀ i, F i → i < w.heap.size) : ∃ g cap D dc C cc, v = .slice (some ⟨g, 0, none⟩) (L.length + 2) cap ∧ L.length + 2 ≤ cap ∧ g < w.heap.size ∧
    w.cell? ⟨g, 0, none⟩ = some (.int .i64 r0.type) ∧ w.cell? ⟨g, 1, none⟩ = some (.slice D r0.data.length dc) ∧ w.cell? ⟨g, 2, none⟩ = some (.slice C r0.cuts.length cc) ∧ w.cell? ⟨g, 3, none⟩ = some (.int .i64 r0.at_) ∧ w.cell? ⟨g, 7, none⟩ = some (.int .i64 r1.at_) ∧
    RecRd w w.heap.size r0 D dc C cc := by
  obtain ⟨S, h1, h2, ho⟩ := h.ex
  match S, h1 with
  | (x0, t0) :: (x1, t1) :: S, h1 =>
    simp only [List.map_cons, List.cons.injEq] at h1
    obtain ⟨rfl, rfl, rfl⟩ := h1
    obtain ⟨D, dc, C, cc, q0, d0, c0, e1, e2, e3⟩ := h2 (x0, t0) (by simp)
    obtain ⟨D1, dc1, C1, cc1, q1, _⟩ := h2 (x1, t1) (by simp)
    simp only at q0 q1 d0 c0 e1 e2 e3
    subst q0 q1
    rcases ho.2 with ⟨_, h0⟩ | ⟨g, cap, cur, rfl, hb, hg, hnc, _⟩
    · simp at h0
    · have hc := ho.cells (g := g) rfl
      refine ⟨g, cap, D, dc, C, cc, rfl, hnc, (Array.getElem?_eq_some_iff.1 hg).1, ?_, ?_, ?_, ?_, ?_, ⟨d0.rd hF, c0.rd hF, e1, e2, e3⟩⟩
      · have := hc 0 _ rfl; rwa [addr_zero] at this
      · have := hc 1 _ rfl; rwa [addr_zero] at this
      · have := hc 2 _ rfl; rwa [addr_zero] at this
      · have := hc 3 _ rfl; rwa [addr_zero] at this
      · have := hc 7 _ rfl; rwa [addr_zero] at this

/-- What is looked at last. -/
abbrev K10 (w w7 : World) (g gj gl : Nat) (ar : Addr) (c0 : Nat) (A1 : Option Addr) (c1 : Nat) (Dj : Option Addr) (dcj : Nat) (Cj : Option Addr) (ccj : Nat) (W : World) : Prop :=
  Below w7.heap.size w7 W ∧ W.cell? ⟨g, 0, none⟩ = some (.int .i64 261) ∧ W.cell? ⟨g, 1, none⟩ = some (.slice (some ar) 1 c0) ∧ W.cell? ⟨g, 3, none⟩ = some (.slice A1 0 c1) ∧ W.cell? ⟨ar.block, ar.off + 3, none⟩ = some (.int .i64 6) ∧
    W.cell? ⟨gj, 0, none⟩ = some (.int .i64 2057) ∧ W.cell? ⟨gj, 1, none⟩ = some (.slice Dj 2 dcj) ∧ W.cell? ⟨gj, 2, none⟩ = some (.slice Cj 0 ccj) ∧ W.cell? ⟨gj, 3, none⟩ = some (.int .i64 0) ∧ W.cell? ⟨gj, 7, none⟩ = some (.int .i64 0) ∧
    W.cell? ⟨gl, 0, none⟩ = some (.int .i64 2057) ∧ W.cell? ⟨gl, 1, none⟩ = some (.slice (some ⟨w.heap.size, 0, none⟩) 2 2) ∧ W.cell? ⟨gl, 2, none⟩ = some (.slice none 0 0) ∧ W.cell? ⟨gl, 3, none⟩ = some (.int .i64 0)

theorem K10.below {w w7 : World} {g gj gl : Nat} {ar : Addr} {c0 : Nat} {A1 : Option Addr} {c1 : Nat} {Dj : Option Addr} {dcj : Nat} {Cj : Option Addr} {ccj : Nat} {W W' : World} (h : K10 w w7 g gj gl ar c0 A1 c1 Dj dcj Cj ccj W) (hg : g < w7.heap.size) (hj : gj < w7.heap.size) (hl : gl < w7.heap.size)
    (ha : ar.block < w7.heap.size) (hb : Below W.heap.size W W') : K10 w w7 g gj gl ar c0 A1 c1 Dj dcj Cj ccj W' := by
  have hb' := hb.mono h.1.size
  have c : ∀ (q : Nat) (o : Nat), q < w7.heap.size → W'.cell? ⟨q, o, none⟩ = W.cell? ⟨q, o, none⟩ := fun q o hq => hb'.cell (p := ⟨q, o, none⟩) hq
  obtain ⟨h0, h1, h2, h3, h4, h5, h6, h7, h8, h9, h10, h11, h12, h13⟩ := h
  exact ⟨h0.trans hb', (c g 0 hg).trans h1, (c g 1 hg).trans h2, (c g 3 hg).trans h3, (c ar.block (ar.off + 3) ha).trans h4, (c gj 0 hj).trans h5, (c gj 1 hj).trans h6, (c gj 2 hj).trans h7, (c gj 3 hj).trans h8, (c gj 7 hj).trans h9,
    (c gl 0 hl).trans h10, (c gl 1 hl).trans h11, (c gl 2 hl).trans h12, (c gl 3 hl).trans h13⟩

set_option maxHeartbeats 8000000 in
set_option maxRecDepth 100000 in
theorem known2_any (w : World) : Calls Try.prog 6 #[] w fun e w' => e = .returned (.bool true) ∧ Below w.heap.size w w' := by
  obtain ⟨w1, hw1, hs1, hb1, hl0, hk0, hfA, hfD⟩ := k_laid w
  have hl : RowF recForm w1 (· < w1.heap.size) (some ⟨w.heap.size + 1 + 1, 0, none⟩) 5 kL := hl0
  have hk : Bk w1 (w.heap.size + 1 + 1) 49 #[.int .i64 2057, .slice (some ⟨w.heap.size, 0, none⟩) 2 2, .slice none 0 0, .int .i64 0,
      .int .i64 7, .slice none 0 0, .slice none 0 0, .int .i64 6, .int .i64 10, .slice none 0 0, .slice none 0 0, .int .i64 10, .int .i64 2057, .slice (some ⟨w.heap.size + 1, 0, none⟩) 2 2, .slice none 0 0, .int .i64 14, .int .i64 10, .slice none 0 0, .slice none 0 0, .int .i64 20] := hk0
  clear hl0 hk0
  go_enter Try.func6, Try.ntmps6
  go_wp2_with fail
  rw [← hw1]
  clear hw1
  have hgl : w.heap.size + 1 + 1 < w1.heap.size := by omega
  generalize w.heap.size + 1 + 1 = gl at *
  refine (split_any hl.recs (Nat.le_refl _) (by omega) kL_wide).mono ?_
  rintro e w2 ⟨v2, rfl, o2, hb2⟩
  rw [k_split] at o2 ⊢
  have hs2 := hb2.size
  obtain ⟨g, cap, A0, c0, A1, c1, rfl, hcap, hg, x0, x1, x2, x3, hr0, hr1⟩ := streams_two o2 fun i hi => hi.1
  obtain ⟨Aj, cj, ej, hcj, hj⟩ := o2.read (F' := (· < w2.heap.size)) (fun i hi => (o2.lt i hi).2) fun i hi => hi.1
  simp only [Value.slice.injEq] at ej
  obtain ⟨rfl, _, rfl⟩ := ej
  obtain ⟨ar, rfl, hra, hall⟩ := hr0.at_ (by simp)
  obtain ⟨D, dc, C, cc, hB0⟩ := hall 0 kB rfl
  have y3 : w2.cell? ⟨ar.block, ar.off + 3, none⟩ = some (.int .i64 6) := by have := hB0.c3; simpa [Addr.add, kB] using this
  have q1 : w2.cell? ⟨g, 1, none⟩ = some (.slice (some ar) 1 c0) := x1
  have hcap' : 2 ≤ cap := hcap
  clear hall hB0
  go_wp2_with fail
  refine (join_any hj (Nat.le_refl _) (by intro s hs; simp only [List.mem_cons, List.not_mem_nil, or_false] at hs; rcases hs with rfl | rfl <;> simp [Small, Wide, kB])).mono ?_
  rintro e w3 ⟨vj, rfl, oj, hb3⟩
  rw [k_join] at oj ⊢
  have hs3 := hb3.size
  obtain ⟨gj, capj, Dj, dcj, Cj, ccj, rfl, hcapj, hgj, z0, z1, z2, z3, z7, hrj⟩ := recs_cells oj fun i hi => hi.1
  have hl3 := (hl.below hb2 (Nat.le_refl _)).below hb3 (by omega)
  have h4 : RecsRd w3 w1.heap.size (some ⟨gl, 0, none⟩) 4 [kA, kB, kC, kD] := by
    have := (hl3.cut (i := 0) (j := 4) (cap := 5) (by omega) (by omega) (by omega)).recs
    simpa [Addr.add, kL] using this
  have h1 : RecsRd w3 w1.heap.size (some ⟨gl, 4, none⟩) 4 [kB, kC, kD, kE] := by
    have := (hl3.cut (i := 1) (j := 5) (cap := 5) (by omega) (by omega) (by omega)).recs
    simpa [Addr.add, kL, recForm] using this
  go_wp2_with fail
  refine (split_any h4 (by omega) (by omega) (fun r hr => kL_wide r (List.mem_of_mem_take (show r ∈ kL.take 4 from hr)))).mono ?_
  rintro e w4 ⟨v4, rfl, -, hb4⟩
  rw [k_split4]
  have hs4 := hb4.size
  have h1' := h1.below hb4 (by omega)
  go_wp2_with fail
  refine (split_any h1' (by omega) (by omega) (fun r hr => kL_wide r (List.mem_of_mem_drop (show r ∈ kL.drop 1 from hr)))).mono ?_
  rintro e w5 ⟨v5, rfl, -, hb5⟩
  rw [k_split1]
  have hs5 := hb5.size
  have hb15 : Below w1.heap.size w1 w5 := ((hb2.trans (hb3.mono (by omega))).trans (hb4.mono (by omega))).trans (hb5.mono (by omega))
  have hk5 := hk.below hb15 hgl
  have t0 : w5.cell? ⟨gl, 0, none⟩ = some (.int .i64 2057) := hk5.cell 0
  have t1 : w5.cell? ⟨gl, 1, none⟩ = some (.slice (some ⟨w.heap.size, 0, none⟩) 2 2) := hk5.cell 1
  have t2 : w5.cell? ⟨gl, 2, none⟩ = some (.slice none 0 0) := hk5.cell 2
  have t3 : w5.cell? ⟨gl, 3, none⟩ = some (.int .i64 0) := hk5.cell 3
  have t12 : w5.cell? ⟨gl, 12, none⟩ = some (.int .i64 2057) := hk5.cell 12
  have t13 : w5.cell? ⟨gl, 13, none⟩ = some (.slice (some ⟨w.heap.size + 1, 0, none⟩) 2 2) := hk5.cell 13
  have t14 : w5.cell? ⟨gl, 14, none⟩ = some (.slice none 0 0) := hk5.cell 14
  have t15 : w5.cell? ⟨gl, 15, none⟩ = some (.int .i64 14) := hk5.cell 15
  have x3' : w2.cell? ⟨g, 3, none⟩ = some (.slice A1 0 c1) := x3
  have HX := Lib.hid (And.intro x0 (And.intro q1 (And.intro x3' (And.intro y3 (And.intro z0 (And.intro z1 (And.intro z2 (And.intro z3 z7))))))))
  clear x0 x2 x3 x3' q1 y3 z0 z1 z2 z3 z7
  have hmv : ∀ W', Below w5.heap.size w5 W' → Move w1 (· < w1.heap.size) W' (· < W'.heap.size) := fun W' hb => Move.of_below (hb15.trans (hb.mono (by omega))) (fun i hi => hi) fun i hi => by have := hb15.size; have := hb.size; omega
  have hb8 : Below w5.heap.size w5 ((w5.alloc (.cells #[.int .i64 2057, .slice (some ⟨w.heap.size, 0, none⟩) 2 2, .slice none 0 0, .int .i64 0, .int .i64 2057, .slice (some ⟨w.heap.size + 1, 0, none⟩) 2 2, .slice none 0 0, .int .i64 14] 49)).drew) := ((Below.refl _ _).alloc (Nat.le_refl _) _).trans (Below.refl _ _).drew
  have h8 : RecsRd ((w5.alloc (.cells #[.int .i64 2057, .slice (some ⟨w.heap.size, 0, none⟩) 2 2, .slice none 0 0, .int .i64 0, .int .i64 2057, .slice (some ⟨w.heap.size + 1, 0, none⟩) 2 2, .slice none 0 0, .int .i64 14] 49)).drew) ((w5.alloc (.cells #[.int .i64 2057, .slice (some ⟨w.heap.size, 0, none⟩) 2 2, .slice none 0 0, .int .i64 0, .int .i64 2057, .slice (some ⟨w.heap.size + 1, 0, none⟩) 2 2, .slice none 0 0, .int .i64 14] 49)).drew).heap.size (some ⟨w5.heap.size, 0, none⟩) 2 [kA, kD] := by
    have hbk : Bk ((w5.alloc (.cells #[.int .i64 2057, .slice (some ⟨w.heap.size, 0, none⟩) 2 2, .slice none 0 0, .int .i64 0, .int .i64 2057, .slice (some ⟨w.heap.size + 1, 0, none⟩) 2 2, .slice none 0 0, .int .i64 14] 49)).drew) w5.heap.size 49 #[.int .i64 2057, .slice (some ⟨w.heap.size, 0, none⟩) 2 2, .slice none 0 0, .int .i64 0, .int .i64 2057, .slice (some ⟨w.heap.size + 1, 0, none⟩) 2 2, .slice none 0 0, .int .i64 14] := Bk.new w5 _ _
    refine (RowF.flat (f := recForm) (S := [([.int .i64 2057, .slice (some ⟨w.heap.size, 0, none⟩) 2 2, .slice none 0 0, .int .i64 0], kA), ([.int .i64 2057, .slice (some ⟨w.heap.size + 1, 0, none⟩) 2 2, .slice none 0 0, .int .i64 14], kD)]) rfl ?_ ((bk_rd (k := 4) (n := 2) hbk rfl).rdF fun i hi => hi) rfl).recs
    intro p hp
    simp only [List.mem_cons, List.not_mem_nil, or_false] at hp
    rcases hp with rfl | rfl
    · exact recForm.move (hmv _ hb8) hfA
    · exact recForm.move (hmv _ hb8) hfD
  have hw8 : ∀ r ∈ [kA, kD], Wide r := by
    intro r hr
    simp only [List.mem_cons, List.not_mem_nil, or_false] at hr
    rcases hr with rfl | rfl <;> simp [Wide, kA, kD]
  go_wp2_with fail
  go_region_with (go_at_call 8; refine (split_any h8 (Nat.le_refl _) (by omega) hw8).mono ?_; rintro e w6 ⟨v6, rfl, -, hb6⟩; rw [k_split03])
  all_goals
    have hb56 : Below w5.heap.size w5 w6 := hb8.trans (hb6.mono hb8.size)
    have hs6 := hb56.size
    have hw9 : ∀ r ∈ [(⟨2057, [], [], 9⟩ : RecM)], Wide r := by
      intro r hr
      simp only [List.mem_cons, List.not_mem_nil, or_false] at hr
      subst hr
      simp [Wide]
    have h9 : RecsRd (w6.alloc (.cells #[.int .i64 2057, .slice none 0 0, .slice none 0 0, .int .i64 9] 49)) (w6.alloc (.cells #[.int .i64 2057, .slice none 0 0, .slice none 0 0, .int .i64 9] 49)).heap.size (some ⟨w6.heap.size, 0, none⟩) 1 [⟨2057, [], [], 9⟩] := by
      have hbk : Bk (w6.alloc (.cells #[.int .i64 2057, .slice none 0 0, .slice none 0 0, .int .i64 9] 49)) w6.heap.size 49 #[.int .i64 2057, .slice none 0 0, .slice none 0 0, .int .i64 9] := Bk.new w6 _ _
      refine (RowF.flat (f := recForm) (S := [([.int .i64 2057, .slice none 0 0, .slice none 0 0, .int .i64 9], ⟨2057, [], [], 9⟩)]) rfl ?_ ((bk_rd (k := 4) (n := 1) hbk rfl).rdF fun i hi => hi) rfl).recs
      intro p hp
      simp only [List.mem_cons, List.not_mem_nil, or_false] at hp
      subst hp
      exact rec_nil (by simp [Fit])
    clear h8 hw8 hb8 t0 t1 t2 t3 t12 t13 t14 t15
    go_wp2_with fail
    refine (split_any h9 (Nat.le_refl _) (by omega) hw9).mono ?_
    rintro e w7 ⟨v7, rfl, -, hb7⟩
    rw [k_split9]
    have b67 : Below w6.heap.size w6 w7 := ((Below.refl _ _).alloc (Nat.le_refl _) _).trans (hb7.mono (by simp))
    have b57 : Below w5.heap.size w5 w7 := hb56.trans (b67.mono hs6)
    have b37 : Below w3.heap.size w3 w7 := (hb4.trans (hb5.mono hs4)).trans (b57.mono (by omega))
    have b27 : Below w2.heap.size w2 w7 := hb3.trans (b37.mono hs3)
    have b17 : Below w1.heap.size w1 w7 := hb2.trans (b27.mono hs2)
    have s7 := b17.size
    have s37 := b37.size
    obtain ⟨x0, q1, x3, y3, z0, z1, z2, z3, z7⟩ := HX.out
    have X0 : w7.cell? ⟨g, 0, none⟩ = some (.int .i64 261) := (b27.cell (p := ⟨g, 0, none⟩) hg).trans x0
    have X1 : w7.cell? ⟨g, 1, none⟩ = some (.slice (some ar) 1 c0) := (b27.cell (p := ⟨g, 1, none⟩) hg).trans q1
    have X3 : w7.cell? ⟨g, 3, none⟩ = some (.slice A1 0 c1) := (b27.cell (p := ⟨g, 3, none⟩) hg).trans x3
    have Y3 : w7.cell? ⟨ar.block, ar.off + 3, none⟩ = some (.int .i64 6) := (b27.cell (p := ⟨ar.block, ar.off + 3, none⟩) hra).trans y3
    have Z0 : w7.cell? ⟨gj, 0, none⟩ = some (.int .i64 2057) := (b37.cell (p := ⟨gj, 0, none⟩) hgj).trans z0
    have Z1 : w7.cell? ⟨gj, 1, none⟩ = some (.slice Dj 2 dcj) := (b37.cell (p := ⟨gj, 1, none⟩) hgj).trans z1
    have Z2 : w7.cell? ⟨gj, 2, none⟩ = some (.slice Cj 0 ccj) := (b37.cell (p := ⟨gj, 2, none⟩) hgj).trans z2
    have Z3 : w7.cell? ⟨gj, 3, none⟩ = some (.int .i64 0) := (b37.cell (p := ⟨gj, 3, none⟩) hgj).trans z3
    have Z7 : w7.cell? ⟨gj, 7, none⟩ = some (.int .i64 0) := (b37.cell (p := ⟨gj, 7, none⟩) hgj).trans z7
    have hk7 := hk.below b17 hgl
    have T0 : w7.cell? ⟨gl, 0, none⟩ = some (.int .i64 2057) := hk7.cell 0
    have T1 : w7.cell? ⟨gl, 1, none⟩ = some (.slice (some ⟨w.heap.size, 0, none⟩) 2 2) := hk7.cell 1
    have T2 : w7.cell? ⟨gl, 2, none⟩ = some (.slice none 0 0) := hk7.cell 2
    have T3 : w7.cell? ⟨gl, 3, none⟩ = some (.int .i64 0) := hk7.cell 3
    have rj : RecRd w7 w7.heap.size kA Dj dcj Cj ccj := (hrj.below b37).mono s37
    have rl : RecRd w7 w7.heap.size kA (some ⟨w.heap.size, 0, none⟩) 2 none 0 := recForm_rd (recForm.move (Move.of_below b17 (fun i hi => hi) fun i hi => by omega) hfA)
    have hsm : sameM kA kA = true := rfl
    have bend : Below w.heap.size w w7 := hb1.trans (b17.mono (by omega))
    have send := bend.size
    clear x0 q1 x3 y3 z0 z1 z2 z3 z7 hk7 b67 b57 b37 b27 b17 HX
    go_wp2_with fail
    have hK : K10 w w7 g gj gl ar c0 A1 c1 Dj dcj Cj ccj w7 := ⟨Below.refl _ _, X0, X1, X3, Y3, Z0, Z1, Z2, Z3, Z7, T0, T1, T2, T3⟩
    have hgw : g < w7.heap.size := by omega
    have hjw : gj < w7.heap.size := by omega
    have hlw : gl < w7.heap.size := by omega
    have haw : ar.block < w7.heap.size := by omega
    clear X0 X1 X3 Y3 Z0 Z1 Z2 Z3 Z7 T0 T1 T2 T3
    simp only [List.append]
    refine wp_region_tab (S := K10 w w7 g gj gl ar c0 A1 c1 Dj dcj Cj ccj) (E := fun W W' => Below w7.heap.size W W') [(1, Is (.slice (some ⟨gl, 0, none⟩) 5 5)), (2, Is (.slice (some ⟨g, 0, none⟩) 2 cap)), (5, Is (.slice (some ⟨gj, 0, none⟩) 5 capj)), (6, Is (.int .i64 0)), (8, Is (.int .i64 14)), (9, Is (.int .i64 5)), (11, Is (.int .i64 6)), (12, Is (.int .i64 6)), (14, Is (.int .i64 14)), (15, Is (.int .i64 6)), (17, Is (.int .i64 9)), (18, Is (.int .i64 2))] [(90, Is (.slice (some ⟨g, 0, none⟩) 2 cap)), (91, Is (.pointer (some ⟨g, 0, none⟩))), (92, Is (.pointer (some ⟨g, 0, none⟩))), (93, Is (.int .i64 261)), (94, Is (.bool true)), (95, Is (.bool true)), (96, Is (.slice (some ⟨g, 0, none⟩) 2 cap)), (97, Is (.pointer (some ⟨g, 0, none⟩))), (98, Is (.pointer (some ⟨g, 1, none⟩))), (99, Is (.slice (some ar) 1 c0)), (100, Is (.pointer (some ar))), (101, Is (.pointer (some ⟨ar.block, ar.off + 3, none⟩))), (102, Is (.int .i64 6)), (103, Is (.bool true)), (104, Is (.bool true)), (105, Is (.bool true)), (106, Is (.slice (some ⟨g, 0, none⟩) 2 cap)), (107, Is (.pointer (some ⟨g, 2, none⟩))), (108, Is (.pointer (some ⟨g, 3, none⟩))), (109, Is (.slice A1 0 c1)), (110, Is (.int .i64 0)), (111, Is (.bool true)), (112, Is (.bool true)), (113, Is (.bool true)), (114, Is (.int .i64 0)), (115, Is (.bool true)), (116, Is (.bool true)), (117, Is (.bool true)), (118, Is (.slice (some ⟨gj, 0, none⟩) 5 capj)), (119, Is (.int .i64 5)), (120, Is (.bool true)), (121, Is (.bool true)), (122, Is (.bool true)), (123, Is (.slice (some ⟨gj, 0, none⟩) 5 capj)), (124, Is (.pointer (some ⟨gj, 4, none⟩))), (125, Is (.pointer (some ⟨gj, 7, none⟩))), (126, Is (.int .i64 0)), (127, Is (.bool true)), (128, Is (.bool true)), (129, Is (.bool true)), (130, Is (.slice (some ⟨gj, 0, none⟩) 5 capj)), (131, Is (.pointer (some ⟨gj, 0, none⟩))), (132, Is (.agg #[.int .i64 2057, .slice Dj 2 dcj, .slice Cj 0 ccj, .int .i64 0])), (133, Is (.slice (some ⟨gl, 0, none⟩) 5 5)), (134, Is (.pointer (some ⟨gl, 0, none⟩))), (135, Is (.agg #[.int .i64 2057, .slice (some ⟨w.heap.size, 0, none⟩) 2 2, .slice none 0 0, .int .i64 0])), (136, Is (.bool true)), (137, Is (.bool true)), (138, Is (.bool true)), (139, Is (.int .i64 14)), (140, Is (.bool true)), (141, Is (.bool true)), (142, Is (.bool true)), (143, Is (.int .i64 5)), (144, Is (.bool true)), (145, Is (.bool true)), (146, Is (.bool true)), (147, Is (.int .i64 6)), (148, Is (.bool true)), (149, Is (.bool true)), (150, Is (.bool true)), (151, Is (.int .i64 6)), (152, Is (.bool true)), (153, Is (.bool true)), (154, Is (.bool true)), (155, Is (.int .i64 14)), (156, Is (.bool true)), (157, Is (.bool true)), (158, Is (.bool true)), (159, Is (.int .i64 6)), (160, Is (.bool true)), (161, Is (.bool true)), (162, Is (.bool true)), (163, Is (.int .i64 9)), (164, Is (.bool true)), (165, Is (.bool true)), (166, Is (.bool true)), (167, Is (.int .i64 2)), (168, Is (.bool true)), (169, Is (.bool true)), (0, Is (.bool true))] [([2], none), ([90], none), ([91], none), ([92], none), ([93], none), ([94], none), ([2, 95], some (95, true)), ([96, 95], some (95, true)), ([97, 95], some (95, true)), ([98, 95], some (95, true)), ([99, 95], some (95, true)), ([100, 95], some (95, true)), ([101, 95], some (95, true)), ([102, 95], some (95, true)), ([95, 103], none), ([104], none), ([2, 105], some (105, true)), ([106, 105], some (105, true)), ([107, 105], some (105, true)), ([108, 105], some (105, true)), ([109, 105], some (105, true)), ([110, 105], some (105, true)), ([105, 111], none), ([112], none), ([6, 113], some (113, true)), ([114, 113], some (113, true)), ([113, 115], none), ([116], none), ([5, 117], some (117, true)), ([118, 117], some (117, true)), ([119, 117], some (117, true)), ([117, 120], none), ([121], none), ([5, 122], some (122, true)), ([123, 122], some (122, true)), ([124, 122], some (122, true)), ([125, 122], some (122, true)), ([126, 122], some (122, true)), ([122, 127], none), ([128], none), ([5, 129], some (129, true)), ([130, 129], some (129, true)), ([131, 129], some (129, true)), ([1, 129], some (129, true)), ([133, 129], some (129, true)), ([134, 129], some (129, true)), ([132, 135, 129], some (129, true)), ([129, 136], none), ([137], none), ([8, 138], some (138, true)), ([139, 138], some (138, true)), ([138, 140], none), ([141], none), ([9, 142], some (142, true)), ([143, 142], some (142, true)), ([142, 144], none), ([145], none), ([11, 146], some (146, true)), ([147, 146], some (146, true)), ([146, 148], none), ([149], none), ([12, 150], some (150, true)), ([151, 150], some (150, true)), ([150, 152], none), ([153], none), ([14, 154], some (154, true)), ([155, 154], some (154, true)), ([154, 156], none), ([157], none), ([15, 158], some (158, true)), ([159, 158], some (158, true)), ([158, 160], none), ([161], none), ([17, 162], some (162, true)), ([163, 162], some (162, true)), ([162, 164], none), ([165], none), ([18, 166], some (166, true)), ([167, 166], some (166, true)), ([166, 168], none), ([169], none)]
      (by as_aux_lemma => kernel_rfl) ?_ ?_ ?_ ⟨stable_is _ _, stable_is _ _, stable_is _ _, stable_is _ _, stable_is _ _, stable_is _ _, stable_is _ _, stable_is _ _, stable_is _ _, stable_is _ _, stable_is _ _, stable_is _ _, stable_is _ _, stable_is _ _, stable_is _ _, stable_is _ _, stable_is _ _, stable_is _ _, stable_is _ _, stable_is _ _, stable_is _ _, stable_is _ _, stable_is _ _, stable_is _ _, stable_is _ _, stable_is _ _, stable_is _ _, stable_is _ _, stable_is _ _, stable_is _ _, stable_is _ _, stable_is _ _, stable_is _ _, stable_is _ _, stable_is _ _, stable_is _ _, stable_is _ _, stable_is _ _, stable_is _ _, stable_is _ _, stable_is _ _, stable_is _ _, stable_is _ _, stable_is _ _, stable_is _ _, stable_is _ _, stable_is _ _, stable_is _ _, stable_is _ _, stable_is _ _, stable_is _ _, stable_is _ _, stable_is _ _, stable_is _ _, stable_is _ _, stable_is _ _, stable_is _ _, stable_is _ _, stable_is _ _, stable_is _ _, stable_is _ _, stable_is _ _, stable_is _ _, stable_is _ _, stable_is _ _, stable_is _ _, stable_is _ _, stable_is _ _, stable_is _ _, stable_is _ _, stable_is _ _, stable_is _ _, stable_is _ _, stable_is _ _, stable_is _ _, stable_is _ _, stable_is _ _, stable_is _ _, stable_is _ _, stable_is _ _, stable_is _ _, stable_is _ _, stable_is _ _, stable_is _ _, stable_is _ _, stable_is _ _, stable_is _ _, stable_is _ _, stable_is _ _, stable_is _ _, stable_is _ _, stable_is _ _, stable_is _ _, trivial⟩ ?_ (K10.below hK hgw hjw hlw haw (Below.refl _ _).drew) ?_ ?_
    · as_aux_lemma => kernel_rfl
    · as_aux_lemma => kernel_rfl
    · as_aux_lemma => kernel_rfl
    · exact ⟨rfl, rfl, rfl, rfl, rfl, rfl, rfl, rfl, rfl, rfl, rfl, rfl, trivial⟩
    · refine ⟨?_, ?_, ?_, ?_, ?_, ?_, ?_, ?_, ?_, ?_, ?_, ?_, ?_, ?_, ?_, ?_, ?_, ?_, ?_, ?_, ?_, ?_, ?_, ?_, ?_, ?_, ?_, ?_, ?_, ?_, ?_, ?_, ?_, ?_, ?_, ?_, ?_, ?_, ?_, ?_, ?_, ?_, ?_, ?_, ?_, ?_, ?_, ?_, ?_, ?_, ?_, ?_, ?_, ?_, ?_, ?_, ?_, ?_, ?_, ?_, ?_, ?_, ?_, ?_, ?_, ?_, ?_, ?_, ?_, ?_, ?_, ?_, ?_, ?_, ?_, ?_, ?_, ?_, ?_, ?_, ?_, trivial⟩
      · as_aux_lemma =>
          intro a W hS hL
          have e2 : a.tmps.getD 2 undef = .slice (some ⟨g, 0, none⟩) 2 cap := hL.1
          clear hL
          go_simp
          exact ⟨⟨fun d hd => by injection hd with hd; subst hd; rfl, fun h => by cases h⟩, hS, Below.refl _ _⟩
      · as_aux_lemma =>
          intro a W hS hL
          have e90 : a.tmps.getD 90 undef = .slice (some ⟨g, 0, none⟩) 2 cap := hL.1
          clear hL
          go_simp
          exact ⟨⟨fun d hd => by injection hd with hd; subst hd; rfl, fun h => by cases h⟩, hS, Below.refl _ _⟩
      · as_aux_lemma =>
          intro a W hS hL
          have e91 : a.tmps.getD 91 undef = .pointer (some ⟨g, 0, none⟩) := hL.1
          clear hL
          go_simp
          exact ⟨⟨fun d hd => by injection hd with hd; subst hd; rfl, fun h => by cases h⟩, hS, Below.refl _ _⟩
      · as_aux_lemma =>
          intro a W hS hL
          have e92 : a.tmps.getD 92 undef = .pointer (some ⟨g, 0, none⟩) := hL.1
          clear hL
          obtain ⟨_, f0, f1, f2, f3, f4, f5, f6, f7, f8, f9, f10, f11, f12⟩ := (And.intro hS.1 hS.2)
          go_simp
          exact ⟨⟨fun d hd => by injection hd with hd; subst hd; rfl, fun h => by cases h⟩, hS, Below.refl _ _⟩
      · as_aux_lemma =>
          intro a W hS hL
          have e93 : a.tmps.getD 93 undef = .int .i64 261 := hL.1
          clear hL
          go_simp
          exact ⟨⟨fun d hd => by injection hd with hd; subst hd; rfl, fun h => by cases h⟩, hS, Below.refl _ _⟩
      · as_aux_lemma =>
          intro a W hS hL
          have e94 : a.tmps.getD 94 undef = .bool true := hL.1
          clear hL
          go_simp
          exact ⟨⟨fun d hd => by injection hd with hd; subst hd; rfl, fun h => by cases h⟩, hS, Below.refl _ _⟩
      · as_aux_lemma =>
          intro a W hS hL
          have e2 : a.tmps.getD 2 undef = .slice (some ⟨g, 0, none⟩) 2 cap := hL.1
          have e95 : a.tmps.getD 95 undef = .bool true := hL.2.1
          clear hL
          refine ⟨true, e95, ?_⟩
          rw [if_pos rfl]
          go_simp
          exact ⟨⟨fun d hd => by injection hd with hd; subst hd; rfl, fun h => by cases h⟩, hS, Below.refl _ _⟩
      · as_aux_lemma =>
          intro a W hS hL
          have e96 : a.tmps.getD 96 undef = .slice (some ⟨g, 0, none⟩) 2 cap := hL.1
          have e95 : a.tmps.getD 95 undef = .bool true := hL.2.1
          clear hL
          refine ⟨true, e95, ?_⟩
          rw [if_pos rfl]
          go_simp
          exact ⟨⟨fun d hd => by injection hd with hd; subst hd; rfl, fun h => by cases h⟩, hS, Below.refl _ _⟩
      · as_aux_lemma =>
          intro a W hS hL
          have e97 : a.tmps.getD 97 undef = .pointer (some ⟨g, 0, none⟩) := hL.1
          have e95 : a.tmps.getD 95 undef = .bool true := hL.2.1
          clear hL
          refine ⟨true, e95, ?_⟩
          rw [if_pos rfl]
          go_simp
          exact ⟨⟨fun d hd => by injection hd with hd; subst hd; rfl, fun h => by cases h⟩, hS, Below.refl _ _⟩
      · as_aux_lemma =>
          intro a W hS hL
          have e98 : a.tmps.getD 98 undef = .pointer (some ⟨g, 1, none⟩) := hL.1
          have e95 : a.tmps.getD 95 undef = .bool true := hL.2.1
          clear hL
          refine ⟨true, e95, ?_⟩
          rw [if_pos rfl]
          obtain ⟨_, f0, f1, f2, f3, f4, f5, f6, f7, f8, f9, f10, f11, f12⟩ := (And.intro hS.1 hS.2)
          go_simp
          exact ⟨⟨fun d hd => by injection hd with hd; subst hd; rfl, fun h => by cases h⟩, hS, Below.refl _ _⟩
      · as_aux_lemma =>
          intro a W hS hL
          have e99 : a.tmps.getD 99 undef = .slice (some ar) 1 c0 := hL.1
          have e95 : a.tmps.getD 95 undef = .bool true := hL.2.1
          clear hL
          refine ⟨true, e95, ?_⟩
          rw [if_pos rfl]
          go_simp
          exact ⟨⟨fun d hd => by injection hd with hd; subst hd; rfl, fun h => by cases h⟩, hS, Below.refl _ _⟩
      · as_aux_lemma =>
          intro a W hS hL
          have e100 : a.tmps.getD 100 undef = .pointer (some ar) := hL.1
          have e95 : a.tmps.getD 95 undef = .bool true := hL.2.1
          clear hL
          refine ⟨true, e95, ?_⟩
          rw [if_pos rfl]
          go_simp
          exact ⟨⟨fun d hd => by injection hd with hd; subst hd; rfl, fun h => by cases h⟩, hS, Below.refl _ _⟩
      · as_aux_lemma =>
          intro a W hS hL
          have e101 : a.tmps.getD 101 undef = .pointer (some ⟨ar.block, ar.off + 3, none⟩) := hL.1
          have e95 : a.tmps.getD 95 undef = .bool true := hL.2.1
          clear hL
          refine ⟨true, e95, ?_⟩
          rw [if_pos rfl]
          obtain ⟨_, f0, f1, f2, f3, f4, f5, f6, f7, f8, f9, f10, f11, f12⟩ := (And.intro hS.1 hS.2)
          go_simp
          exact ⟨⟨fun d hd => by injection hd with hd; subst hd; rfl, fun h => by cases h⟩, hS, Below.refl _ _⟩
      · as_aux_lemma =>
          intro a W hS hL
          have e102 : a.tmps.getD 102 undef = .int .i64 6 := hL.1
          have e95 : a.tmps.getD 95 undef = .bool true := hL.2.1
          clear hL
          refine ⟨true, e95, ?_⟩
          rw [if_pos rfl]
          go_simp
          exact ⟨⟨fun d hd => by injection hd with hd; subst hd; rfl, fun h => by cases h⟩, hS, Below.refl _ _⟩
      · as_aux_lemma =>
          intro a W hS hL
          have e95 : a.tmps.getD 95 undef = .bool true := hL.1
          have e103 : a.tmps.getD 103 undef = .bool true := hL.2.1
          clear hL
          go_simp
          exact ⟨⟨fun d hd => by injection hd with hd; subst hd; rfl, fun h => by cases h⟩, hS, Below.refl _ _⟩
      · as_aux_lemma =>
          intro a W hS hL
          have e104 : a.tmps.getD 104 undef = .bool true := hL.1
          clear hL
          go_simp
          exact ⟨⟨fun d hd => by injection hd with hd; subst hd; rfl, fun h => by cases h⟩, hS, Below.refl _ _⟩
      · as_aux_lemma =>
          intro a W hS hL
          have e2 : a.tmps.getD 2 undef = .slice (some ⟨g, 0, none⟩) 2 cap := hL.1
          have e105 : a.tmps.getD 105 undef = .bool true := hL.2.1
          clear hL
          refine ⟨true, e105, ?_⟩
          rw [if_pos rfl]
          go_simp
          exact ⟨⟨fun d hd => by injection hd with hd; subst hd; rfl, fun h => by cases h⟩, hS, Below.refl _ _⟩
      · as_aux_lemma =>
          intro a W hS hL
          have e106 : a.tmps.getD 106 undef = .slice (some ⟨g, 0, none⟩) 2 cap := hL.1
          have e105 : a.tmps.getD 105 undef = .bool true := hL.2.1
          clear hL
          refine ⟨true, e105, ?_⟩
          rw [if_pos rfl]
          go_simp
          exact ⟨⟨fun d hd => by injection hd with hd; subst hd; rfl, fun h => by cases h⟩, hS, Below.refl _ _⟩
      · as_aux_lemma =>
          intro a W hS hL
          have e107 : a.tmps.getD 107 undef = .pointer (some ⟨g, 2, none⟩) := hL.1
          have e105 : a.tmps.getD 105 undef = .bool true := hL.2.1
          clear hL
          refine ⟨true, e105, ?_⟩
          rw [if_pos rfl]
          go_simp
          exact ⟨⟨fun d hd => by injection hd with hd; subst hd; rfl, fun h => by cases h⟩, hS, Below.refl _ _⟩
      · as_aux_lemma =>
          intro a W hS hL
          have e108 : a.tmps.getD 108 undef = .pointer (some ⟨g, 3, none⟩) := hL.1
          have e105 : a.tmps.getD 105 undef = .bool true := hL.2.1
          clear hL
          refine ⟨true, e105, ?_⟩
          rw [if_pos rfl]
          obtain ⟨_, f0, f1, f2, f3, f4, f5, f6, f7, f8, f9, f10, f11, f12⟩ := (And.intro hS.1 hS.2)
          go_simp
          exact ⟨⟨fun d hd => by injection hd with hd; subst hd; rfl, fun h => by cases h⟩, hS, Below.refl _ _⟩
      · as_aux_lemma =>
          intro a W hS hL
          have e109 : a.tmps.getD 109 undef = .slice A1 0 c1 := hL.1
          have e105 : a.tmps.getD 105 undef = .bool true := hL.2.1
          clear hL
          refine ⟨true, e105, ?_⟩
          rw [if_pos rfl]
          go_simp
          exact ⟨⟨fun d hd => by injection hd with hd; subst hd; rfl, fun h => by cases h⟩, hS, Below.refl _ _⟩
      · as_aux_lemma =>
          intro a W hS hL
          have e110 : a.tmps.getD 110 undef = .int .i64 0 := hL.1
          have e105 : a.tmps.getD 105 undef = .bool true := hL.2.1
          clear hL
          refine ⟨true, e105, ?_⟩
          rw [if_pos rfl]
          go_simp
          exact ⟨⟨fun d hd => by injection hd with hd; subst hd; rfl, fun h => by cases h⟩, hS, Below.refl _ _⟩
      · as_aux_lemma =>
          intro a W hS hL
          have e105 : a.tmps.getD 105 undef = .bool true := hL.1
          have e111 : a.tmps.getD 111 undef = .bool true := hL.2.1
          clear hL
          go_simp
          exact ⟨⟨fun d hd => by injection hd with hd; subst hd; rfl, fun h => by cases h⟩, hS, Below.refl _ _⟩
      · as_aux_lemma =>
          intro a W hS hL
          have e112 : a.tmps.getD 112 undef = .bool true := hL.1
          clear hL
          go_simp
          exact ⟨⟨fun d hd => by injection hd with hd; subst hd; rfl, fun h => by cases h⟩, hS, Below.refl _ _⟩
      · as_aux_lemma =>
          intro a W hS hL
          have e6 : a.tmps.getD 6 undef = .int .i64 0 := hL.1
          have e113 : a.tmps.getD 113 undef = .bool true := hL.2.1
          clear hL
          refine ⟨true, e113, ?_⟩
          rw [if_pos rfl]
          go_simp
          exact ⟨⟨fun d hd => by injection hd with hd; subst hd; rfl, fun h => by cases h⟩, hS, Below.refl _ _⟩
      · as_aux_lemma =>
          intro a W hS hL
          have e114 : a.tmps.getD 114 undef = .int .i64 0 := hL.1
          have e113 : a.tmps.getD 113 undef = .bool true := hL.2.1
          clear hL
          refine ⟨true, e113, ?_⟩
          rw [if_pos rfl]
          go_simp
          exact ⟨⟨fun d hd => by injection hd with hd; subst hd; rfl, fun h => by cases h⟩, hS, Below.refl _ _⟩
      · as_aux_lemma =>
          intro a W hS hL
          have e113 : a.tmps.getD 113 undef = .bool true := hL.1
          have e115 : a.tmps.getD 115 undef = .bool true := hL.2.1
          clear hL
          go_simp
          exact ⟨⟨fun d hd => by injection hd with hd; subst hd; rfl, fun h => by cases h⟩, hS, Below.refl _ _⟩
      · as_aux_lemma =>
          intro a W hS hL
          have e116 : a.tmps.getD 116 undef = .bool true := hL.1
          clear hL
          go_simp
          exact ⟨⟨fun d hd => by injection hd with hd; subst hd; rfl, fun h => by cases h⟩, hS, Below.refl _ _⟩
      · as_aux_lemma =>
          intro a W hS hL
          have e5 : a.tmps.getD 5 undef = .slice (some ⟨gj, 0, none⟩) 5 capj := hL.1
          have e117 : a.tmps.getD 117 undef = .bool true := hL.2.1
          clear hL
          refine ⟨true, e117, ?_⟩
          rw [if_pos rfl]
          go_simp
          exact ⟨⟨fun d hd => by injection hd with hd; subst hd; rfl, fun h => by cases h⟩, hS, Below.refl _ _⟩
      · as_aux_lemma =>
          intro a W hS hL
          have e118 : a.tmps.getD 118 undef = .slice (some ⟨gj, 0, none⟩) 5 capj := hL.1
          have e117 : a.tmps.getD 117 undef = .bool true := hL.2.1
          clear hL
          refine ⟨true, e117, ?_⟩
          rw [if_pos rfl]
          go_simp
          exact ⟨⟨fun d hd => by injection hd with hd; subst hd; rfl, fun h => by cases h⟩, hS, Below.refl _ _⟩
      · as_aux_lemma =>
          intro a W hS hL
          have e119 : a.tmps.getD 119 undef = .int .i64 5 := hL.1
          have e117 : a.tmps.getD 117 undef = .bool true := hL.2.1
          clear hL
          refine ⟨true, e117, ?_⟩
          rw [if_pos rfl]
          go_simp
          exact ⟨⟨fun d hd => by injection hd with hd; subst hd; rfl, fun h => by cases h⟩, hS, Below.refl _ _⟩
      · as_aux_lemma =>
          intro a W hS hL
          have e117 : a.tmps.getD 117 undef = .bool true := hL.1
          have e120 : a.tmps.getD 120 undef = .bool true := hL.2.1
          clear hL
          go_simp
          exact ⟨⟨fun d hd => by injection hd with hd; subst hd; rfl, fun h => by cases h⟩, hS, Below.refl _ _⟩
      · as_aux_lemma =>
          intro a W hS hL
          have e121 : a.tmps.getD 121 undef = .bool true := hL.1
          clear hL
          go_simp
          exact ⟨⟨fun d hd => by injection hd with hd; subst hd; rfl, fun h => by cases h⟩, hS, Below.refl _ _⟩
      · as_aux_lemma =>
          intro a W hS hL
          have e5 : a.tmps.getD 5 undef = .slice (some ⟨gj, 0, none⟩) 5 capj := hL.1
          have e122 : a.tmps.getD 122 undef = .bool true := hL.2.1
          clear hL
          refine ⟨true, e122, ?_⟩
          rw [if_pos rfl]
          go_simp
          exact ⟨⟨fun d hd => by injection hd with hd; subst hd; rfl, fun h => by cases h⟩, hS, Below.refl _ _⟩
      · as_aux_lemma =>
          intro a W hS hL
          have e123 : a.tmps.getD 123 undef = .slice (some ⟨gj, 0, none⟩) 5 capj := hL.1
          have e122 : a.tmps.getD 122 undef = .bool true := hL.2.1
          clear hL
          refine ⟨true, e122, ?_⟩
          rw [if_pos rfl]
          go_simp
          exact ⟨⟨fun d hd => by injection hd with hd; subst hd; rfl, fun h => by cases h⟩, hS, Below.refl _ _⟩
      · as_aux_lemma =>
          intro a W hS hL
          have e124 : a.tmps.getD 124 undef = .pointer (some ⟨gj, 4, none⟩) := hL.1
          have e122 : a.tmps.getD 122 undef = .bool true := hL.2.1
          clear hL
          refine ⟨true, e122, ?_⟩
          rw [if_pos rfl]
          go_simp
          exact ⟨⟨fun d hd => by injection hd with hd; subst hd; rfl, fun h => by cases h⟩, hS, Below.refl _ _⟩
      · as_aux_lemma =>
          intro a W hS hL
          have e125 : a.tmps.getD 125 undef = .pointer (some ⟨gj, 7, none⟩) := hL.1
          have e122 : a.tmps.getD 122 undef = .bool true := hL.2.1
          clear hL
          refine ⟨true, e122, ?_⟩
          rw [if_pos rfl]
          obtain ⟨_, f0, f1, f2, f3, f4, f5, f6, f7, f8, f9, f10, f11, f12⟩ := (And.intro hS.1 hS.2)
          go_simp
          exact ⟨⟨fun d hd => by injection hd with hd; subst hd; rfl, fun h => by cases h⟩, hS, Below.refl _ _⟩
      · as_aux_lemma =>
          intro a W hS hL
          have e126 : a.tmps.getD 126 undef = .int .i64 0 := hL.1
          have e122 : a.tmps.getD 122 undef = .bool true := hL.2.1
          clear hL
          refine ⟨true, e122, ?_⟩
          rw [if_pos rfl]
          go_simp
          exact ⟨⟨fun d hd => by injection hd with hd; subst hd; rfl, fun h => by cases h⟩, hS, Below.refl _ _⟩
      · as_aux_lemma =>
          intro a W hS hL
          have e122 : a.tmps.getD 122 undef = .bool true := hL.1
          have e127 : a.tmps.getD 127 undef = .bool true := hL.2.1
          clear hL
          go_simp
          exact ⟨⟨fun d hd => by injection hd with hd; subst hd; rfl, fun h => by cases h⟩, hS, Below.refl _ _⟩
      · as_aux_lemma =>
          intro a W hS hL
          have e128 : a.tmps.getD 128 undef = .bool true := hL.1
          clear hL
          go_simp
          exact ⟨⟨fun d hd => by injection hd with hd; subst hd; rfl, fun h => by cases h⟩, hS, Below.refl _ _⟩
      · as_aux_lemma =>
          intro a W hS hL
          have e5 : a.tmps.getD 5 undef = .slice (some ⟨gj, 0, none⟩) 5 capj := hL.1
          have e129 : a.tmps.getD 129 undef = .bool true := hL.2.1
          clear hL
          refine ⟨true, e129, ?_⟩
          rw [if_pos rfl]
          go_simp
          exact ⟨⟨fun d hd => by injection hd with hd; subst hd; rfl, fun h => by cases h⟩, hS, Below.refl _ _⟩
      · as_aux_lemma =>
          intro a W hS hL
          have e130 : a.tmps.getD 130 undef = .slice (some ⟨gj, 0, none⟩) 5 capj := hL.1
          have e129 : a.tmps.getD 129 undef = .bool true := hL.2.1
          clear hL
          refine ⟨true, e129, ?_⟩
          rw [if_pos rfl]
          go_simp
          exact ⟨⟨fun d hd => by injection hd with hd; subst hd; rfl, fun h => by cases h⟩, hS, Below.refl _ _⟩
      · as_aux_lemma =>
          intro a W hS hL
          have e131 : a.tmps.getD 131 undef = .pointer (some ⟨gj, 0, none⟩) := hL.1
          have e129 : a.tmps.getD 129 undef = .bool true := hL.2.1
          clear hL
          refine ⟨true, e129, ?_⟩
          rw [if_pos rfl]
          obtain ⟨_, f0, f1, f2, f3, f4, f5, f6, f7, f8, f9, f10, f11, f12⟩ := (And.intro hS.1 hS.2)
          go_simp
          exact ⟨⟨fun d hd => by injection hd with hd; subst hd; rfl, fun h => by cases h⟩, hS, Below.refl _ _⟩
      · as_aux_lemma =>
          intro a W hS hL
          have e1 : a.tmps.getD 1 undef = .slice (some ⟨gl, 0, none⟩) 5 5 := hL.1
          have e129 : a.tmps.getD 129 undef = .bool true := hL.2.1
          clear hL
          refine ⟨true, e129, ?_⟩
          rw [if_pos rfl]
          go_simp
          exact ⟨⟨fun d hd => by injection hd with hd; subst hd; rfl, fun h => by cases h⟩, hS, Below.refl _ _⟩
      · as_aux_lemma =>
          intro a W hS hL
          have e133 : a.tmps.getD 133 undef = .slice (some ⟨gl, 0, none⟩) 5 5 := hL.1
          have e129 : a.tmps.getD 129 undef = .bool true := hL.2.1
          clear hL
          refine ⟨true, e129, ?_⟩
          rw [if_pos rfl]
          go_simp
          exact ⟨⟨fun d hd => by injection hd with hd; subst hd; rfl, fun h => by cases h⟩, hS, Below.refl _ _⟩
      · as_aux_lemma =>
          intro a W hS hL
          have e134 : a.tmps.getD 134 undef = .pointer (some ⟨gl, 0, none⟩) := hL.1
          have e129 : a.tmps.getD 129 undef = .bool true := hL.2.1
          clear hL
          refine ⟨true, e129, ?_⟩
          rw [if_pos rfl]
          obtain ⟨_, f0, f1, f2, f3, f4, f5, f6, f7, f8, f9, f10, f11, f12⟩ := (And.intro hS.1 hS.2)
          go_simp
          exact ⟨⟨fun d hd => by injection hd with hd; subst hd; rfl, fun h => by cases h⟩, hS, Below.refl _ _⟩
      · as_aux_lemma =>
          intro a W hS hL
          have e132 : a.tmps.getD 132 undef = .agg #[.int .i64 2057, .slice Dj 2 dcj, .slice Cj 0 ccj, .int .i64 0] := hL.1
          have e135 : a.tmps.getD 135 undef = .agg #[.int .i64 2057, .slice (some ⟨w.heap.size, 0, none⟩) 2 2, .slice none 0 0, .int .i64 0] := hL.2.1
          have e129 : a.tmps.getD 129 undef = .bool true := hL.2.2.1
          clear hL
          refine ⟨true, e129, ?_⟩
          rw [if_pos rfl]
          have hsz := hS.1.size
          go_simp
          refine (same_any (r := kA) (s := kA) (rj.below hS.1) (rl.below hS.1) hsz).mono ?_
          rintro e w' ⟨rfl, hb⟩
          rw [hsm]
          exact ⟨_, rfl, ⟨fun d hd => by injection hd with hd; subst hd; rfl, fun h => by cases h⟩, K10.below hS hgw hjw hlw haw hb, hb.mono hS.1.size⟩
      · as_aux_lemma =>
          intro a W hS hL
          have e129 : a.tmps.getD 129 undef = .bool true := hL.1
          have e136 : a.tmps.getD 136 undef = .bool true := hL.2.1
          clear hL
          go_simp
          exact ⟨⟨fun d hd => by injection hd with hd; subst hd; rfl, fun h => by cases h⟩, hS, Below.refl _ _⟩
      · as_aux_lemma =>
          intro a W hS hL
          have e137 : a.tmps.getD 137 undef = .bool true := hL.1
          clear hL
          go_simp
          exact ⟨⟨fun d hd => by injection hd with hd; subst hd; rfl, fun h => by cases h⟩, hS, Below.refl _ _⟩
      · as_aux_lemma =>
          intro a W hS hL
          have e8 : a.tmps.getD 8 undef = .int .i64 14 := hL.1
          have e138 : a.tmps.getD 138 undef = .bool true := hL.2.1
          clear hL
          refine ⟨true, e138, ?_⟩
          rw [if_pos rfl]
          go_simp
          exact ⟨⟨fun d hd => by injection hd with hd; subst hd; rfl, fun h => by cases h⟩, hS, Below.refl _ _⟩
      · as_aux_lemma =>
          intro a W hS hL
          have e139 : a.tmps.getD 139 undef = .int .i64 14 := hL.1
          have e138 : a.tmps.getD 138 undef = .bool true := hL.2.1
          clear hL
          refine ⟨true, e138, ?_⟩
          rw [if_pos rfl]
          go_simp
          exact ⟨⟨fun d hd => by injection hd with hd; subst hd; rfl, fun h => by cases h⟩, hS, Below.refl _ _⟩
      · as_aux_lemma =>
          intro a W hS hL
          have e138 : a.tmps.getD 138 undef = .bool true := hL.1
          have e140 : a.tmps.getD 140 undef = .bool true := hL.2.1
          clear hL
          go_simp
          exact ⟨⟨fun d hd => by injection hd with hd; subst hd; rfl, fun h => by cases h⟩, hS, Below.refl _ _⟩
      · as_aux_lemma =>
          intro a W hS hL
          have e141 : a.tmps.getD 141 undef = .bool true := hL.1
          clear hL
          go_simp
          exact ⟨⟨fun d hd => by injection hd with hd; subst hd; rfl, fun h => by cases h⟩, hS, Below.refl _ _⟩
      · as_aux_lemma =>
          intro a W hS hL
          have e9 : a.tmps.getD 9 undef = .int .i64 5 := hL.1
          have e142 : a.tmps.getD 142 undef = .bool true := hL.2.1
          clear hL
          refine ⟨true, e142, ?_⟩
          rw [if_pos rfl]
          go_simp
          exact ⟨⟨fun d hd => by injection hd with hd; subst hd; rfl, fun h => by cases h⟩, hS, Below.refl _ _⟩
      · as_aux_lemma =>
          intro a W hS hL
          have e143 : a.tmps.getD 143 undef = .int .i64 5 := hL.1
          have e142 : a.tmps.getD 142 undef = .bool true := hL.2.1
          clear hL
          refine ⟨true, e142, ?_⟩
          rw [if_pos rfl]
          go_simp
          exact ⟨⟨fun d hd => by injection hd with hd; subst hd; rfl, fun h => by cases h⟩, hS, Below.refl _ _⟩
      · as_aux_lemma =>
          intro a W hS hL
          have e142 : a.tmps.getD 142 undef = .bool true := hL.1
          have e144 : a.tmps.getD 144 undef = .bool true := hL.2.1
          clear hL
          go_simp
          exact ⟨⟨fun d hd => by injection hd with hd; subst hd; rfl, fun h => by cases h⟩, hS, Below.refl _ _⟩
      · as_aux_lemma =>
          intro a W hS hL
          have e145 : a.tmps.getD 145 undef = .bool true := hL.1
          clear hL
          go_simp
          exact ⟨⟨fun d hd => by injection hd with hd; subst hd; rfl, fun h => by cases h⟩, hS, Below.refl _ _⟩
      · as_aux_lemma =>
          intro a W hS hL
          have e11 : a.tmps.getD 11 undef = .int .i64 6 := hL.1
          have e146 : a.tmps.getD 146 undef = .bool true := hL.2.1
          clear hL
          refine ⟨true, e146, ?_⟩
          rw [if_pos rfl]
          go_simp
          exact ⟨⟨fun d hd => by injection hd with hd; subst hd; rfl, fun h => by cases h⟩, hS, Below.refl _ _⟩
      · as_aux_lemma =>
          intro a W hS hL
          have e147 : a.tmps.getD 147 undef = .int .i64 6 := hL.1
          have e146 : a.tmps.getD 146 undef = .bool true := hL.2.1
          clear hL
          refine ⟨true, e146, ?_⟩
          rw [if_pos rfl]
          go_simp
          exact ⟨⟨fun d hd => by injection hd with hd; subst hd; rfl, fun h => by cases h⟩, hS, Below.refl _ _⟩
      · as_aux_lemma =>
          intro a W hS hL
          have e146 : a.tmps.getD 146 undef = .bool true := hL.1
          have e148 : a.tmps.getD 148 undef = .bool true := hL.2.1
          clear hL
          go_simp
          exact ⟨⟨fun d hd => by injection hd with hd; subst hd; rfl, fun h => by cases h⟩, hS, Below.refl _ _⟩
      · as_aux_lemma =>
          intro a W hS hL
          have e149 : a.tmps.getD 149 undef = .bool true := hL.1
          clear hL
          go_simp
          exact ⟨⟨fun d hd => by injection hd with hd; subst hd; rfl, fun h => by cases h⟩, hS, Below.refl _ _⟩
      · as_aux_lemma =>
          intro a W hS hL
          have e12 : a.tmps.getD 12 undef = .int .i64 6 := hL.1
          have e150 : a.tmps.getD 150 undef = .bool true := hL.2.1
          clear hL
          refine ⟨true, e150, ?_⟩
          rw [if_pos rfl]
          go_simp
          exact ⟨⟨fun d hd => by injection hd with hd; subst hd; rfl, fun h => by cases h⟩, hS, Below.refl _ _⟩
      · as_aux_lemma =>
          intro a W hS hL
          have e151 : a.tmps.getD 151 undef = .int .i64 6 := hL.1
          have e150 : a.tmps.getD 150 undef = .bool true := hL.2.1
          clear hL
          refine ⟨true, e150, ?_⟩
          rw [if_pos rfl]
          go_simp
          exact ⟨⟨fun d hd => by injection hd with hd; subst hd; rfl, fun h => by cases h⟩, hS, Below.refl _ _⟩
      · as_aux_lemma =>
          intro a W hS hL
          have e150 : a.tmps.getD 150 undef = .bool true := hL.1
          have e152 : a.tmps.getD 152 undef = .bool true := hL.2.1
          clear hL
          go_simp
          exact ⟨⟨fun d hd => by injection hd with hd; subst hd; rfl, fun h => by cases h⟩, hS, Below.refl _ _⟩
      · as_aux_lemma =>
          intro a W hS hL
          have e153 : a.tmps.getD 153 undef = .bool true := hL.1
          clear hL
          go_simp
          exact ⟨⟨fun d hd => by injection hd with hd; subst hd; rfl, fun h => by cases h⟩, hS, Below.refl _ _⟩
      · as_aux_lemma =>
          intro a W hS hL
          have e14 : a.tmps.getD 14 undef = .int .i64 14 := hL.1
          have e154 : a.tmps.getD 154 undef = .bool true := hL.2.1
          clear hL
          refine ⟨true, e154, ?_⟩
          rw [if_pos rfl]
          go_simp
          exact ⟨⟨fun d hd => by injection hd with hd; subst hd; rfl, fun h => by cases h⟩, hS, Below.refl _ _⟩
      · as_aux_lemma =>
          intro a W hS hL
          have e155 : a.tmps.getD 155 undef = .int .i64 14 := hL.1
          have e154 : a.tmps.getD 154 undef = .bool true := hL.2.1
          clear hL
          refine ⟨true, e154, ?_⟩
          rw [if_pos rfl]
          go_simp
          exact ⟨⟨fun d hd => by injection hd with hd; subst hd; rfl, fun h => by cases h⟩, hS, Below.refl _ _⟩
      · as_aux_lemma =>
          intro a W hS hL
          have e154 : a.tmps.getD 154 undef = .bool true := hL.1
          have e156 : a.tmps.getD 156 undef = .bool true := hL.2.1
          clear hL
          go_simp
          exact ⟨⟨fun d hd => by injection hd with hd; subst hd; rfl, fun h => by cases h⟩, hS, Below.refl _ _⟩
      · as_aux_lemma =>
          intro a W hS hL
          have e157 : a.tmps.getD 157 undef = .bool true := hL.1
          clear hL
          go_simp
          exact ⟨⟨fun d hd => by injection hd with hd; subst hd; rfl, fun h => by cases h⟩, hS, Below.refl _ _⟩
      · as_aux_lemma =>
          intro a W hS hL
          have e15 : a.tmps.getD 15 undef = .int .i64 6 := hL.1
          have e158 : a.tmps.getD 158 undef = .bool true := hL.2.1
          clear hL
          refine ⟨true, e158, ?_⟩
          rw [if_pos rfl]
          go_simp
          exact ⟨⟨fun d hd => by injection hd with hd; subst hd; rfl, fun h => by cases h⟩, hS, Below.refl _ _⟩
      · as_aux_lemma =>
          intro a W hS hL
          have e159 : a.tmps.getD 159 undef = .int .i64 6 := hL.1
          have e158 : a.tmps.getD 158 undef = .bool true := hL.2.1
          clear hL
          refine ⟨true, e158, ?_⟩
          rw [if_pos rfl]
          go_simp
          exact ⟨⟨fun d hd => by injection hd with hd; subst hd; rfl, fun h => by cases h⟩, hS, Below.refl _ _⟩
      · as_aux_lemma =>
          intro a W hS hL
          have e158 : a.tmps.getD 158 undef = .bool true := hL.1
          have e160 : a.tmps.getD 160 undef = .bool true := hL.2.1
          clear hL
          go_simp
          exact ⟨⟨fun d hd => by injection hd with hd; subst hd; rfl, fun h => by cases h⟩, hS, Below.refl _ _⟩
      · as_aux_lemma =>
          intro a W hS hL
          have e161 : a.tmps.getD 161 undef = .bool true := hL.1
          clear hL
          go_simp
          exact ⟨⟨fun d hd => by injection hd with hd; subst hd; rfl, fun h => by cases h⟩, hS, Below.refl _ _⟩
      · as_aux_lemma =>
          intro a W hS hL
          have e17 : a.tmps.getD 17 undef = .int .i64 9 := hL.1
          have e162 : a.tmps.getD 162 undef = .bool true := hL.2.1
          clear hL
          refine ⟨true, e162, ?_⟩
          rw [if_pos rfl]
          go_simp
          exact ⟨⟨fun d hd => by injection hd with hd; subst hd; rfl, fun h => by cases h⟩, hS, Below.refl _ _⟩
      · as_aux_lemma =>
          intro a W hS hL
          have e163 : a.tmps.getD 163 undef = .int .i64 9 := hL.1
          have e162 : a.tmps.getD 162 undef = .bool true := hL.2.1
          clear hL
          refine ⟨true, e162, ?_⟩
          rw [if_pos rfl]
          go_simp
          exact ⟨⟨fun d hd => by injection hd with hd; subst hd; rfl, fun h => by cases h⟩, hS, Below.refl _ _⟩
      · as_aux_lemma =>
          intro a W hS hL
          have e162 : a.tmps.getD 162 undef = .bool true := hL.1
          have e164 : a.tmps.getD 164 undef = .bool true := hL.2.1
          clear hL
          go_simp
          exact ⟨⟨fun d hd => by injection hd with hd; subst hd; rfl, fun h => by cases h⟩, hS, Below.refl _ _⟩
      · as_aux_lemma =>
          intro a W hS hL
          have e165 : a.tmps.getD 165 undef = .bool true := hL.1
          clear hL
          go_simp
          exact ⟨⟨fun d hd => by injection hd with hd; subst hd; rfl, fun h => by cases h⟩, hS, Below.refl _ _⟩
      · as_aux_lemma =>
          intro a W hS hL
          have e18 : a.tmps.getD 18 undef = .int .i64 2 := hL.1
          have e166 : a.tmps.getD 166 undef = .bool true := hL.2.1
          clear hL
          refine ⟨true, e166, ?_⟩
          rw [if_pos rfl]
          go_simp
          exact ⟨⟨fun d hd => by injection hd with hd; subst hd; rfl, fun h => by cases h⟩, hS, Below.refl _ _⟩
      · as_aux_lemma =>
          intro a W hS hL
          have e167 : a.tmps.getD 167 undef = .int .i64 2 := hL.1
          have e166 : a.tmps.getD 166 undef = .bool true := hL.2.1
          clear hL
          refine ⟨true, e166, ?_⟩
          rw [if_pos rfl]
          go_simp
          exact ⟨⟨fun d hd => by injection hd with hd; subst hd; rfl, fun h => by cases h⟩, hS, Below.refl _ _⟩
      · as_aux_lemma =>
          intro a W hS hL
          have e166 : a.tmps.getD 166 undef = .bool true := hL.1
          have e168 : a.tmps.getD 168 undef = .bool true := hL.2.1
          clear hL
          go_simp
          exact ⟨⟨fun d hd => by injection hd with hd; subst hd; rfl, fun h => by cases h⟩, hS, Below.refl _ _⟩
      · as_aux_lemma =>
          intro a W hS hL
          have e169 : a.tmps.getD 169 undef = .bool true := hL.1
          clear hL
          go_simp
          exact ⟨⟨fun d hd => by injection hd with hd; subst hd; rfl, fun h => by cases h⟩, hS, Below.refl _ _⟩
    · intro a W hd hsz hT _ hS
      have e0 : a.tmps.getD 0 undef = .bool true := hT 0 (by simp)
      go_wp2
      refine bodyPost_ret (results_tmp rfl _ _ _) hd ⟨?_, bend.trans (hS.1.mono send)⟩
      rw [e0]
end Go.Proofs.Ytliidkampllddaa
