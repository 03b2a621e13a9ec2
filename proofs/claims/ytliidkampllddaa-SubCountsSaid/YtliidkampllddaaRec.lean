/- Records, plainly, and how they lie. No condition. -/
import Derived.Test.YtliidkampllddaaBytes
namespace Go.Proofs.Ytliidkampllddaa
open Go.RowKit

structure RecM where
  type : Int
  data : List UInt8
  cuts : List Int
  at_ : Int

/-- An int in its cell. -/
def iv (x : Int) : Value := .int .i64 x
/-- An int's range. -/
def Fit (x : Int) : Prop := -9223372036854775808 ≤ x ∧ x ≤ 9223372036854775807

theorem Rd.intAt {w : World} {B n i : Nat} {A : Option Addr} {l : List Int} (h : Rd w B 1 A n (l.map iv)) (hi : i < n) :
    ∃ a x, A = some a ∧ a.block < B ∧ w.cell? (a.add i) = some (.int .i64 x) ∧ l[i]? = some x ∧ l.drop i = x :: l.drop (i + 1) := by
  obtain ⟨a, u, ha, hb, hu, hc⟩ := h.cell hi
  have hl : i < l.length := by have := h.len; simp at this; omega
  refine ⟨a, l[i], ha, hb, ?_, List.getElem?_eq_getElem hl, List.drop_eq_getElem_cons hl⟩
  rw [hc, ← hu]
  simp [List.getElem?_eq_getElem hl, iv]

/-- A record as a value: its two slices by their places. -/
def recV (r : RecM) (D : Option Addr) (dc : Nat) (C : Option Addr) (cc : Nat) : Value :=
  .agg #[.int .i64 r.type, .slice D r.data.length dc, .slice C r.cuts.length cc, .int .i64 r.at_]

/-- A record that reads, below block B, as r. -/
structure RecRd (w : World) (B : Nat) (r : RecM) (D : Option Addr) (dc : Nat) (C : Option Addr) (cc : Nat) : Prop where
  data : Rd w B 1 D r.data.length (r.data.map bv)
  cuts : Rd w B 1 C r.cuts.length (r.cuts.map iv)
  dcap : r.data.length ≤ dc ∧ r.data.length ≤ 1000000000000000000
  ccap : r.cuts.length ≤ cc ∧ r.cuts.length ≤ 1000000000000000000
  fit : Fit r.type

theorem RecRd.below {w w' : World} {B : Nat} {r : RecM} {D C : Option Addr} {dc cc : Nat} (h : RecRd w B r D dc C cc) (hb : Below B w w') : RecRd w' B r D dc C cc :=
  ⟨h.data.below hb, h.cuts.below hb, h.dcap, h.ccap, h.fit⟩
theorem RecRd.mono {w : World} {B B' : Nat} {r : RecM} {D C : Option Addr} {dc cc : Nat} (h : RecRd w B r D dc C cc) (hb : B ≤ B') : RecRd w B' r D dc C cc :=
  ⟨h.data.mono hb, h.cuts.mono hb, h.dcap, h.ccap, h.fit⟩

theorem own_mono {w : World} {base base' : Nat} {e : TypeId} {k : Nat} {v : Value} {n : Nat} {xs : List Value} (h : w.ownsRow base e k v n xs) (hb : base' ≤ base) : w.ownsRow base' e k v n xs := by
  refine ⟨h.1, ?_⟩
  rcases h.2 with h2 | ⟨g, cap, cur, hv, hg, r⟩
  · exact .inl h2
  · exact .inr ⟨g, cap, cur, hv, by omega, r⟩

/-- The cuts that are as few as may be: k of them. -/
def cutsK (k : Nat) : List Int := (List.range k).map fun (i : Nat) => 224 * ((i : Int) + 1)

theorem cutsK_len (k : Nat) : (cutsK k).length = k := by simp [cutsK]
theorem cutsK_succ (k : Nat) : cutsK (k + 1) = cutsK k ++ [224 * ((k : Int) + 1)] := by simp [cutsK, List.range_succ]


theorem iv_one (l : List Int) : ∀ u ∈ l.map iv, u.oneCell' = true := by
  intro u hu
  obtain ⟨c, _, rfl⟩ := List.mem_map.1 hu
  rfl

theorem intsRow : ElemRow Try.prog 47 3 (.int .i64 0) 1 8 := by
  obtain ⟨i, hi, h0, h1, h2⟩ := info_parts (P := Try.prog) (e := 3) (z := .int .i64 0) (size := 1) (bytes := 8) (by kernel_rfl)
  exact ⟨Try.underlying47, ⟨i, hi, h0, h1, h2⟩, rfl, by omega⟩

/-- At p a record lies that reads, below block B, as r. -/
structure RecAt (w : World) (B : Nat) (p : Addr) (r : RecM) (D : Option Addr) (dc : Nat) (C : Option Addr) (cc : Nat) : Prop where
  rd : RecRd w B r D dc C cc
  low : p.block < B
  c0 : w.cell? p = some (.int .i64 r.type)
  c1 : w.cell? ⟨p.block, p.off + 1, none⟩ = some (.slice D r.data.length dc)
  c2 : w.cell? ⟨p.block, p.off + 2, none⟩ = some (.slice C r.cuts.length cc)
  c3 : w.cell? ⟨p.block, p.off + 3, none⟩ = some (.int .i64 r.at_)

theorem RecAt.below {w w' : World} {B B' : Nat} {p : Addr} {r : RecM} {D : Option Addr} {dc : Nat} {C : Option Addr} {cc : Nat} (h : RecAt w B p r D dc C cc) (hb : Below B' w w') (hB : B ≤ B') : RecAt w' B p r D dc C cc := by
  have hb' := hb.mono hB
  exact ⟨h.rd.below hb', h.low, (hb'.cell (p := p) h.low).trans h.c0, (hb'.cell (p := ⟨p.block, p.off + 1, none⟩) h.low).trans h.c1, (hb'.cell (p := ⟨p.block, p.off + 2, none⟩) h.low).trans h.c2, (hb'.cell (p := ⟨p.block, p.off + 3, none⟩) h.low).trans h.c3⟩

/-- A row of records that reads, below block B, as L. -/
structure RecsRd (w : World) (B : Nat) (A : Option Addr) (n : Nat) (L : List RecM) : Prop where
  len : L.length = n
  at_ : 0 < n → ∃ a, A = some a ∧ a.block < B ∧ ∀ (i : Nat) (r : RecM), L[i]? = some r → ∃ D dc C cc, RecAt w B (a.add (i * 4)) r D dc C cc

theorem RecsRd.below {w w' : World} {B B' n : Nat} {A : Option Addr} {L : List RecM} (h : RecsRd w B A n L) (hb : Below B' w w') (hB : B ≤ B') : RecsRd w' B A n L := by
  refine ⟨h.len, fun hn => ?_⟩
  obtain ⟨a, ha, hl, hr⟩ := h.at_ hn
  refine ⟨a, ha, hl, fun i r hi => ?_⟩
  obtain ⟨D, dc, C, cc, hh⟩ := hr i r hi
  exact ⟨D, dc, C, cc, hh.below hb hB⟩

theorem own_below {w w' : World} {base : Nat} {e : TypeId} {k : Nat} {v : Value} {n : Nat} {xs : List Value} (h : w.ownsRow base e k v n xs) (hb : Below w.heap.size w w') : w'.ownsRow base e k v n xs :=
  Keep.own (S := fun i => w.heap.size ≤ i) (Keep.of_below hb fun i _ h => h) h fun i hi hh => by have := (h.lt i hi).2; omega

theorem RecsRd.mem {w : World} {B n : Nat} {A : Option Addr} {L : List RecM} (h : RecsRd w B A n L) : ∀ r ∈ L, Fit r.type ∧ r.data.length ≤ 1000000000000000000 ∧ r.cuts.length ≤ 1000000000000000000 := by
  intro r hr
  obtain ⟨i, hi, rfl⟩ := List.getElem_of_mem hr
  obtain ⟨a, _, _, hall⟩ := h.at_ (by have := h.len; omega)
  obtain ⟨D, dc, C, cc, hh⟩ := hall i L[i] (List.getElem?_eq_getElem hi)
  exact ⟨hh.rd.fit, hh.rd.dcap.2, hh.rd.ccap.2⟩

theorem RecsRd.cut {w : World} {B n i j cap : Nat} {A : Option Addr} {L : List RecM} (h : RecsRd w B A n L) (hij : i ≤ j) (hj : j ≤ n) (hc : n ≤ cap) :
    RecsRd w B (if cap = i then A else A.map (·.add (i * 4))) (j - i) ((L.drop i).take (j - i)) := by
  have hl := h.len
  refine ⟨by rw [List.length_take, List.length_drop]; omega, fun hn => ?_⟩
  obtain ⟨a, rfl, hab, hall⟩ := h.at_ (by omega)
  rw [if_neg (by omega)]
  refine ⟨a.add (i * 4), rfl, by rw [add_block]; exact hab, fun m r hr => ?_⟩
  rw [List.getElem?_take] at hr
  split at hr
  · rw [List.getElem?_drop] at hr
    rw [add_add, ← Nat.add_mul]
    exact hall _ _ hr
  · cases hr

theorem RecsRd.mono {w : World} {B B' n : Nat} {A : Option Addr} {L : List RecM} (h : RecsRd w B A n L) (hB : B ≤ B') : RecsRd w B' A n L := by
  refine ⟨h.len, fun hn => ?_⟩
  obtain ⟨a, ha, hl, hr⟩ := h.at_ hn
  refine ⟨a, ha, by omega, fun i r hi => ?_⟩
  obtain ⟨D, dc, C, cc, hh⟩ := hr i r hi
  exact ⟨D, dc, C, cc, hh.rd.mono hB, by have := hh.low; omega, hh.c0, hh.c1, hh.c2, hh.c3⟩

theorem RecsRd.front {w : World} {B n j : Nat} {A : Option Addr} {L : List RecM} (h : RecsRd w B A n L) (hj : j ≤ n) : RecsRd w B A j (L.take j) := by
  refine ⟨by rw [List.length_take, h.len]; omega, fun hn => ?_⟩
  obtain ⟨a, ha, hl, hr⟩ := h.at_ (by omega)
  refine ⟨a, ha, hl, fun i r hi => ?_⟩
  rw [List.getElem?_take] at hi
  split at hi
  · exact hr i r hi
  · cases hi

theorem recsRow : ElemRow Try.prog 29 49 (.agg #[.int .i64 0, .slice none 0 0, .slice none 0 0, .int .i64 0]) 4 64 := by
  obtain ⟨i, hi, h0, h1, h2⟩ := info_parts (P := Try.prog) (e := 49) (z := .agg #[.int .i64 0, .slice none 0 0, .slice none 0 0, .int .i64 0]) (size := 4) (bytes := 64) (by kernel_rfl)
  exact ⟨Try.underlying29, ⟨i, hi, h0, h1, h2⟩, rfl, by omega⟩

end Go.Proofs.Ytliidkampllddaa
