/- Rows of rows: what a slice's elements read as, by the form of one element; kept while only other blocks turn. No condition. -/
import Derived.Test.YtkjiokepihmpfaaDoorMem
set_option linter.unusedVariables false
set_option linter.unusedSimpArgs false
namespace Go.Proofs.YtkjiokepihmpfaaDoor
open Go.RowKit

theorem own_mono {w : World} {base base' : Nat} {e : TypeId} {k : Nat} {v : Value} {n : Nat} {xs : List Value} (h : w.ownsRow base e k v n xs) (hb : base' ≤ base) : w.ownsRow base' e k v n xs := by
  refine ⟨h.1, ?_⟩
  rcases h.2 with h2 | ⟨g, cap, cur, hv, hg, r⟩
  · exact .inl h2
  · exact .inr ⟨g, cap, cur, hv, by omega, r⟩
theorem addr_zero (g k : Nat) : (⟨g, 0, none⟩ : Addr).add k = ⟨g, k, none⟩ := by unfold Addr.add; split <;> simp_all
/-- What holds of the blocks of F holds of those of F', in the later world. -/
def Move (w : World) (F : Nat → Prop) (w' : World) (F' : Nat → Prop) : Prop := ∀ i, F i → F' i ∧ w'.heap[i]? = w.heap[i]?

section
variable {w w' w'' : World} {F F' F'' : Nat → Prop} {B : Nat}
theorem Move.cell (h : Move w F w' F') {p : Addr} (hp : F p.block) : w'.cell? p = w.cell? p := World.cell?_of_block (w := w) (h p.block hp).2
theorem Move.wide (hF : ∀ i, F i → F' i) : Move w F w F' := fun i hi => ⟨hF i hi, rfl⟩
theorem Move.trans (h : Move w F w' F') (h' : Move w' F' w'' F'') : Move w F w'' F'' := fun i hi => ⟨(h' i (h i hi).1).1, (h' i (h i hi).1).2.trans (h i hi).2⟩
theorem Move.of_below (hb : Below B w w') (hF : ∀ i, F i → i < B) (hF' : ∀ i, F i → F' i) : Move w F w' F' := fun i hi => ⟨hF' i hi, hb.block i (hF i hi)⟩
theorem Keep.move {T : Nat → Prop} (h : Keep T w w') (hF : ∀ i, F i → i < w.heap.size ∧ ¬ T i) (hF' : ∀ i, F i → F' i) : Move w F w' F' := fun i hi => ⟨hF' i hi, h.block i (hF i hi).1 (hF i hi).2⟩

/-- A slice at A whose n elements, of k cells each, read as xs, in a block of F. -/
structure RdF (w : World) (F : Nat → Prop) (k : Nat) (A : Option Addr) (n : Nat) (xs : List Value) : Prop where
  len : xs.length = n * k
  at_ : 0 < n → ∃ a, A = some a ∧ F a.block ∧ ∀ j u, xs[j]? = some u → w.cell? (a.add j) = some u
variable {k n : Nat} {A : Option Addr} {xs : List Value}
theorem RdF.move (h : RdF w F k A n xs) (hm : Move w F w' F') : RdF w' F' k A n xs := by
  refine ⟨h.len, fun hn => ?_⟩
  obtain ⟨a, e, hb, hc⟩ := h.at_ hn
  exact ⟨a, e, (hm _ hb).1, fun j u hu => by rw [hm.cell (by rw [add_block]; exact hb)]; exact hc j u hu⟩
theorem RdF.rd (h : RdF w F k A n xs) (hF : ∀ i, F i → i < B) : Rd w B k A n xs := by
  refine ⟨h.len, fun hn => ?_⟩
  obtain ⟨a, e, hb, hc⟩ := h.at_ hn
  exact ⟨a, e, hF _ hb, hc⟩
theorem Rd.rdF (h : Rd w B k A n xs) (hF : ∀ i, i < B → F i) : RdF w F k A n xs := by
  refine ⟨h.len, fun hn => ?_⟩
  obtain ⟨a, e, hb, hc⟩ := h.at_ hn
  exact ⟨a, e, hF _ hb, hc⟩
theorem own_rdF {base : Nat} {e : TypeId} {v : Value} (h : w.ownsRow base e k v n xs) (hF : ∀ i, v.ownBlock = some i → F i) : ∃ A c, v = .slice A n c ∧ n ≤ c ∧ RdF w F k A n xs := by
  rcases h.2 with ⟨rfl, rfl⟩ | ⟨g, cap, cur, rfl, hb, hg, hnc, hm, hs, ht⟩
  · exact ⟨none, 0, rfl, Nat.le_refl _, h.1, fun h => absurd h (by omega)⟩
  · exact ⟨_, cap, rfl, hnc, h.1, fun hn => ⟨_, rfl, hF g rfl, h.cells (g := g) rfl⟩⟩
end

/-- One element: how many cells, what they read as. -/
structure Form (α : Type) where
  k : Nat
  R : World → (Nat → Prop) → List Value → α → Prop
  len : ∀ {w F cs x}, R w F cs x → cs.length = k
  move : ∀ {w F w' F' cs x}, Move w F w' F' → R w F cs x → R w' F' cs x

section
variable {α : Type} {f : Form α} {w w' : World} {F F' : Nat → Prop} {A : Option Addr} {n : Nat} {L : List α}

/-- A slice that reads, element by element, as L. -/
structure RowF (f : Form α) (w : World) (F : Nat → Prop) (A : Option Addr) (n : Nat) (L : List α) : Prop where
  len : L.length = n
  at_ : 0 < n → ∃ a, A = some a ∧ F a.block ∧ ∀ (i : Nat) (x : α), L[i]? = some x → ∃ cs, f.R w F cs x ∧ ∀ j u, cs[j]? = some u → w.cell? (a.add (i * f.k + j)) = some u

theorem RowF.nil (f : Form α) (w : World) (F : Nat → Prop) (A : Option Addr) : RowF f w F A 0 [] := ⟨rfl, fun h => absurd h (by omega)⟩
theorem RowF.move (h : RowF f w F A n L) (hm : Move w F w' F') : RowF f w' F' A n L := by
  refine ⟨h.len, fun hn => ?_⟩
  obtain ⟨a, e, hb, hc⟩ := h.at_ hn
  refine ⟨a, e, (hm _ hb).1, fun i x hi => ?_⟩
  obtain ⟨cs, h1, h2⟩ := hc i x hi
  exact ⟨cs, f.move hm h1, fun j u hu => by rw [hm.cell (by rw [add_block]; exact hb)]; exact h2 j u hu⟩
theorem RowF.below {B B' : Nat} (h : RowF f w (· < B) A n L) (hb : Below B' w w') (hB : B ≤ B') : RowF f w' (· < B) A n L := h.move (Move.of_below hb (fun i hi => by omega) fun i hi => hi)
theorem RowF.mono {B B' : Nat} (h : RowF f w (· < B) A n L) (hB : B ≤ B') : RowF f w (· < B') A n L := h.move (Move.wide fun i hi => by omega)

/-- The cut 's[i:j]'. -/
theorem RowF.cut {i j cap : Nat} (h : RowF f w F A n L) (hij : i ≤ j) (hj : j ≤ n) (hc : n ≤ cap) : RowF f w F (if cap = i then A else A.map (·.add (i * f.k))) (j - i) ((L.drop i).take (j - i)) := by
  have hl := h.len
  refine ⟨by rw [List.length_take, List.length_drop]; omega, fun hn => ?_⟩
  obtain ⟨a, rfl, hab, hall⟩ := h.at_ (by omega)
  rw [if_neg (by omega)]
  refine ⟨a.add (i * f.k), rfl, by rw [add_block]; exact hab, fun m r hr => ?_⟩
  rw [List.getElem?_take] at hr
  split at hr
  · rw [List.getElem?_drop] at hr
    obtain ⟨cs, h1, h2⟩ := hall _ _ hr
    refine ⟨cs, h1, fun q u hu => ?_⟩
    rw [add_add, show i * f.k + (m * f.k + q) = (i + m) * f.k + q by rw [Nat.add_mul]; omega]
    exact h2 q u hu
  · cases hr

theorem flat_len {S : List (List Value × α)} {k : Nat} : (∀ p ∈ S, p.1.length = k) → (S.flatMap (·.1)).length = S.length * k := by
  induction S with
  | nil => intro _; simp
  | cons p S ih =>
    intro h
    have h1 := h p (List.mem_cons_self ..)
    have h2 := ih fun q hq => h q (List.mem_cons_of_mem _ hq)
    simp only [List.flatMap_cons, List.length_append, List.length_cons, h1, h2, Nat.add_mul, Nat.one_mul]
    omega

theorem flat_get {S : List (List Value × α)} {k : Nat} : (∀ p ∈ S, p.1.length = k) → ∀ {i : Nat} {p : List Value × α}, S[i]? = some p → ∀ {j : Nat} {u : Value}, p.1[j]? = some u → (S.flatMap (·.1))[i * k + j]? = some u := by
  induction S with
  | nil => intro _ i p h; simp at h
  | cons q S ih =>
    intro h i p hi j u hu
    have h1 := h q (List.mem_cons_self ..)
    simp only [List.flatMap_cons]
    cases i with
    | zero =>
      simp only [List.getElem?_cons_zero, Option.some.injEq] at hi
      subst hi
      have hj : j < q.1.length := (List.getElem?_eq_some_iff.1 hu).1
      rw [List.getElem?_append_left (by omega)]
      simpa using hu
    | succ i =>
      simp only [List.getElem?_cons_succ] at hi
      have e : (i + 1) * k + j = k + (i * k + j) := by rw [Nat.add_mul]; omega
      rw [List.getElem?_append_right (by omega), h1, e, Nat.add_sub_cancel_left]
      exact ih (fun q hq => h q (List.mem_cons_of_mem _ hq)) hi hu

/-- A row of the call's own whose elements read as L. -/
structure OwnF (f : Form α) (w : World) (F : Nat → Prop) (base : Nat) (e : TypeId) (v : Value) (L : List α) : Prop where
  ex : ∃ S : List (List Value × α), S.map (·.2) = L ∧ (∀ p ∈ S, f.R w F p.1 p.2) ∧ w.ownsRow base e f.k v L.length (S.flatMap (·.1))

variable {base : Nat} {e : TypeId} {v v' : Value}
theorem OwnF.nil (f : Form α) (w : World) (F : Nat → Prop) (base : Nat) (e : TypeId) : OwnF f w F base e (.slice none 0 0) [] := ⟨[], rfl, by simp, World.ownsRow_nil _ _ _ _⟩
theorem OwnF.lt (h : OwnF f w F base e v L) : ∀ k, v.ownBlock = some k → base ≤ k ∧ k < w.heap.size := by
  obtain ⟨S, _, _, ho⟩ := h.ex
  exact ho.lt
theorem OwnF.mono {base' : Nat} (h : OwnF f w F base e v L) (hb : base' ≤ base) : OwnF f w F base' e v L := by
  obtain ⟨S, h1, h2, ho⟩ := h.ex
  exact ⟨S, h1, h2, own_mono ho hb⟩
theorem OwnF.keep {T : Nat → Prop} (h : OwnF f w F base e v L) (hK : Keep T w w') (hT : ∀ i, v.ownBlock = some i → ¬ T i) (hm : Move w F w' F') : OwnF f w' F' base e v L := by
  obtain ⟨S, h1, h2, ho⟩ := h.ex
  exact ⟨S, h1, fun p hp => f.move hm (h2 p hp), hK.own ho hT⟩
theorem OwnF.snoc {S : List (List Value × α)} {cs : List Value} {x : α} (h1 : S.map (·.2) = L) (h2 : ∀ p ∈ S, f.R w F p.1 p.2) (hm : Move w F w' F') (hx : f.R w' F' cs x)
    (ho : w'.ownsRow base e f.k v' (L.length + 1) (S.flatMap (·.1) ++ cs)) : OwnF f w' F' base e v' (L ++ [x]) := by
  refine ⟨S ++ [(cs, x)], by simp [h1], fun p hp => ?_, by simpa using ho⟩
  rcases List.mem_append.1 hp with hp | hp
  · exact f.move hm (h2 p hp)
  · simp at hp; subst hp; exact hx
theorem OwnF.form (h : OwnF f w F base e v L) : ∃ A c, v = .slice A L.length c ∧ L.length ≤ c := by
  obtain ⟨S, h1, h2, ho⟩ := h.ex
  obtain ⟨A, c, rfl, hc, _⟩ := own_rdF (F := fun _ => True) ho fun _ _ => trivial
  exact ⟨A, c, rfl, hc⟩
theorem OwnF.read (h : OwnF f w F base e v L) (hv : ∀ i, v.ownBlock = some i → F' i) (hF : ∀ i, F i → F' i) : ∃ A c, v = .slice A L.length c ∧ L.length ≤ c ∧ RowF f w F' A L.length L := by
  obtain ⟨S, h1, h2, ho⟩ := h.ex
  obtain ⟨A, c, rfl, hc, hr⟩ := own_rdF ho hv
  refine ⟨A, c, rfl, hc, rfl, fun hn => ?_⟩
  obtain ⟨a, rfl, hb, hcell⟩ := hr.at_ hn
  refine ⟨a, rfl, hb, fun i x hi => ?_⟩
  rw [← h1, List.getElem?_map, Option.map_eq_some_iff] at hi
  obtain ⟨p, hp, rfl⟩ := hi
  have hp' := h2 p (List.mem_of_getElem? hp)
  exact ⟨p.1, f.move (Move.wide hF) hp', fun j u hu => hcell _ u (flat_get (fun q hq => f.len (h2 q hq)) hp hu)⟩
end

/-- All blocks but those of M. -/
def But (w : World) (M : Nat → Prop) (i : Nat) : Prop := i < w.heap.size ∧ ¬ M i
theorem But.move {w w' : World} {M M' T : Nat → Prop} (h : Keep T w w') (hT : ∀ i, i < w.heap.size → T i → M i) (hM : ∀ i, i < w.heap.size → M' i → M i) : Move w (But w M) w' (But w' M') :=
  h.move (fun i hi => ⟨hi.1, fun ht => hi.2 (hT i hi.1 ht)⟩) fun i hi => ⟨Nat.lt_of_lt_of_le hi.1 h.size, fun hm => hi.2 (hM i hi.1 hm)⟩
end Go.Proofs.YtkjiokepihmpfaaDoor
