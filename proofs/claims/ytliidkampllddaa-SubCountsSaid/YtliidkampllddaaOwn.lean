/- A row of records of the call's own, its slices in blocks of their own. No condition. -/
import Derived.Test.YtliidkampllddaaSame
namespace Go.Proofs.Ytliidkampllddaa
open Go.RowKit

/-- A record and the values of its two slices. -/
structure Item where
  r : RecM
  d : Value
  c : Value

def rowOf (S : List Item) : List Value := S.flatMap fun x => [.int .i64 x.r.type, x.d, x.c, .int .i64 x.r.at_]

theorem rowOf_len (S : List Item) : (rowOf S).length = S.length * 4 := by
  induction S with
  | nil => rfl
  | cons x S ih =>
    simp only [rowOf, List.flatMap_cons, List.length_append, List.length_cons, List.length_nil] at ih ⊢
    omega

theorem rowOf_get {S : List Item} : ∀ {i : Nat} {x : Item}, S[i]? = some x →
    (rowOf S)[i * 4]? = some (.int .i64 x.r.type) ∧ (rowOf S)[i * 4 + 1]? = some x.d ∧ (rowOf S)[i * 4 + 2]? = some x.c ∧ (rowOf S)[i * 4 + 3]? = some (.int .i64 x.r.at_) := by
  induction S with
  | nil => intro i x h; simp at h
  | cons y S ih =>
    intro i x h
    cases i with
    | zero =>
      simp only [List.getElem?_cons_zero, Option.some.injEq] at h
      subst h
      simp [rowOf]
    | succ i =>
      simp only [List.getElem?_cons_succ] at h
      obtain ⟨h0, h1, h2, h3⟩ := ih h
      have e : ∀ j, (rowOf (y :: S))[(i + 1) * 4 + j]? = (rowOf S)[i * 4 + j]? := by
        intro j
        have : rowOf (y :: S) = [.int .i64 y.r.type, y.d, y.c, .int .i64 y.r.at_] ++ rowOf S := by simp [rowOf]
        rw [this, List.getElem?_append_right (by simp; omega)]
        congr 1
        simp
        omega
      exact ⟨(e 0).trans h0, (e 1).trans h1, (e 2).trans h2, (e 3).trans h3⟩

structure RecsOwn (w : World) (base : Nat) (v : Value) (S : List Item) : Prop where
  row : w.ownsRow base 49 4 v S.length (rowOf S)
  data : ∀ x ∈ S, w.ownsRow base 5 1 x.d x.r.data.length (x.r.data.map bv)
  cuts : ∀ x ∈ S, w.ownsRow base 3 1 x.c x.r.cuts.length (x.r.cuts.map iv)
  dapart : S.Pairwise fun x y => ∀ i, x.d.ownBlock = some i → y.d.ownBlock ≠ some i
  capart : S.Pairwise fun x y => ∀ i, x.c.ownBlock = some i → y.c.ownBlock ≠ some i

section
variable {w w' : World} {base : Nat} {v : Value} {S : List Item} {T : Nat → Prop}

theorem RecsOwn.nil (w : World) (base : Nat) : RecsOwn w base (.slice none 0 0) [] :=
  ⟨World.ownsRow_nil _ _ _ _, by simp, by simp, .nil, .nil⟩

theorem RecsOwn.keep (h : RecsOwn w base v S) (hK : Keep T w w') (hT : ∀ i, i < w.heap.size → ¬ T i) : RecsOwn w' base v S :=
  ⟨hK.own h.row fun i hi => hT i (h.row.lt i hi).2, fun x hx => hK.own (h.data x hx) fun i hi => hT i ((h.data x hx).lt i hi).2,
    fun x hx => hK.own (h.cuts x hx) fun i hi => hT i ((h.cuts x hx).lt i hi).2, h.dapart, h.capart⟩

theorem RecsOwn.below (h : RecsOwn w base v S) (hb : Below w.heap.size w w') : RecsOwn w' base v S :=
  h.keep (T := fun i => w.heap.size ≤ i) (Keep.of_below hb fun i _ h => h) fun i hi hh => by omega

theorem addr_zero (g k : Nat) : (⟨g, 0, none⟩ : Addr).add k = ⟨g, k, none⟩ := by unfold Addr.add; split <;> simp_all

/-- Own rows are there to read. -/
theorem RecsOwn.read (h : RecsOwn w base v S) (hfit : ∀ x ∈ S, Fit x.r.type ∧ x.r.data.length ≤ 1000000 ∧ x.r.cuts.length ≤ 1000000) :
    ∃ A c, v = .slice A S.length c ∧ S.length ≤ c ∧ RecsRd w w.heap.size A S.length (S.map (·.r)) := by
  rcases h.row.2 with ⟨rfl, h0⟩ | ⟨g, cap, cur, rfl, hb, hg, hnc, hm, hs, ht⟩
  · have : S = [] := List.eq_nil_of_length_eq_zero h0
    subst this
    exact ⟨none, 0, rfl, Nat.le_refl _, rfl, fun h => absurd h (by simp)⟩
  · refine ⟨_, cap, rfl, hnc, by simp, fun hn => ⟨_, rfl, (Array.getElem?_eq_some_iff.1 hg).1, fun i r hr => ?_⟩⟩
    have hlt : i < S.length := by have := (List.getElem?_eq_some_iff.1 hr).1; simpa using this
    obtain ⟨x, hx⟩ : ∃ x, S[i]? = some x := ⟨_, List.getElem?_eq_getElem hlt⟩
    have hxr : x.r = r := by rw [List.getElem?_map, hx] at hr; simpa using hr
    subst hxr
    have hxm : x ∈ S := List.mem_of_getElem? hx
    obtain ⟨D, dc, hd, hdc, _, hdr⟩ := own_form (h.data x hxm)
    obtain ⟨C, cc, hc, hcc, _, hcr⟩ := own_form (h.cuts x hxm)
    obtain ⟨f0, f1, f2⟩ := hfit x hxm
    obtain ⟨e0, e1, e2, e3⟩ := rowOf_get hx
    have hcell := h.row.cells (g := g) rfl
    refine ⟨D, dc, C, cc, ⟨hdr, hcr, ⟨hdc, by omega⟩, ⟨hcc, by omega⟩, f0⟩, ?_, ?_, ?_, ?_, ?_⟩
    · rw [add_block]
      exact (Array.getElem?_eq_some_iff.1 hg).1
    all_goals rw [addr_zero]
    · have := hcell _ _ e0; rwa [addr_zero] at this
    · have := hcell _ _ e1; rw [addr_zero, hd] at this; exact this
    · have := hcell _ _ e2; rw [addr_zero, hc] at this; exact this
    · have := hcell _ _ e3; rwa [addr_zero] at this
end
theorem rowOf_snoc (S : List Item) (x : Item) : rowOf (S ++ [x]) = rowOf S ++ [.int .i64 x.r.type, x.d, x.c, .int .i64 x.r.at_] := by simp [rowOf]

/-- One record more, its data in a new block. -/
theorem RecsOwn.snoc {w w' : World} {base : Nat} {v v' : Value} {S : List Item} {x : Item} {T : Nat → Prop} (h : RecsOwn w base v S) (hK : Keep T w w') (hT : ∀ i, i < w.heap.size → T i → v.ownBlock = some i)
    (hrow : w'.ownsRow base 49 4 v' (S.length + 1) (rowOf S ++ [.int .i64 x.r.type, x.d, x.c, .int .i64 x.r.at_]))
    (hd : w'.ownsRow base 5 1 x.d x.r.data.length (x.r.data.map bv)) (hc : w'.ownsRow base 3 1 x.c x.r.cuts.length (x.r.cuts.map iv))
    (nd : ∀ i, x.d.ownBlock = some i → w.heap.size ≤ i) (nc : ∀ i, x.c.ownBlock = some i → w.heap.size ≤ i) : RecsOwn w' base v' (S ++ [x]) := by
  have kd : ∀ y ∈ S, w'.ownsRow base 5 1 y.d y.r.data.length (y.r.data.map bv) := fun y hy => hK.own (h.data y hy) fun i hi ht =>
    own_own_ne (h.data y hy) h.row (by decide) i hi (hT i ((h.data y hy).lt i hi).2 ht)
  have kc : ∀ y ∈ S, w'.ownsRow base 3 1 y.c y.r.cuts.length (y.r.cuts.map iv) := fun y hy => hK.own (h.cuts y hy) fun i hi ht =>
    own_own_ne (h.cuts y hy) h.row (by decide) i hi (hT i ((h.cuts y hy).lt i hi).2 ht)
  refine ⟨by rw [rowOf_snoc]; simpa using hrow, ?_, ?_, ?_, ?_⟩
  · intro y hy
    rcases List.mem_append.1 hy with hy | hy
    · exact kd y hy
    · simp at hy; subst hy; exact hd
  · intro y hy
    rcases List.mem_append.1 hy with hy | hy
    · exact kc y hy
    · simp at hy; subst hy; exact hc
  · refine List.pairwise_append.2 ⟨h.dapart, by simp, fun y hy z hz i hi e => ?_⟩
    simp at hz; subst hz
    have := ((h.data y hy).lt i hi).2
    have := nd i e
    omega
  · refine List.pairwise_append.2 ⟨h.capart, by simp, fun y hy z hz i hi e => ?_⟩
    simp at hz; subst hz
    have := ((h.cuts y hy).lt i hi).2
    have := nc i e
    omega

end Go.Proofs.Ytliidkampllddaa
