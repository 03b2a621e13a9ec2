/- A region that draws its order, one operation at a time: if in every state in which an operation may come up it makes what is foretold of its slot, and breaks nothing that is foretold of the others, then every order does. No program; no condition. -/
import Derived.Test.YtkjiokepihmpfaaDoorMem
import Derived.Orders
set_option linter.unusedVariables false
set_option linter.unusedSimpArgs false
namespace Go.Proofs.YtkjiokepihmpfaaDoor
open Go.RowKit

section
variable {P : Program} {ops : Array Oper} {Q : Exit → Act → World → Prop} {S : World → Prop} {E : World → World → Prop} {T : Nat → Value → World → Prop}

/-- What an operation comes to: a value as foretold, in a world that S holds of, and E leads to. -/
def Lands (P : Program) (S : World → Prop) (E : World → World → Prop) (R : Value → World → Prop) (w : World) : Result Next → Prop
  | .ok (.value u) w' => R u w' ∧ S w' ∧ E w w'
  | .ok .skip w' => R undef w' ∧ S w' ∧ E w w'
  | .ok (.enter f args) w' => Calls P f args w' fun e w'' => ∃ u, e = .returned u ∧ R u w'' ∧ S w'' ∧ E w w''
  | _ => False

/-- What is foretold of the slot that an operation writes; of one that writes none, by a number of its own, of the world alone. -/
def dstR (T : Nat → Value → World → Prop) (v : Nat) (dst : Option Tmp) (u : Value) (w : World) : Prop := (∀ d, dst = some d → T d u w) ∧ (dst = none → T v undef w)

theorem lands_wp {o : Oper} {a : Act} {w : World} {K : Act → World → Prop} {R : Value → World → Prop} (h : Lands P S E R w ((execOp a.eval o).run P w))
    (hK : ∀ u w', R u w' → S w' → E w w' → K (a.put o.dst u) w') : o.wp P a w K Q := by
  unfold Oper.wp
  generalize (execOp a.eval o).run P w = r at h
  cases r with
  | ok n w' =>
    cases n with
    | value u => exact hK u w' h.1 h.2.1 h.2.2
    | skip => exact hK undef w' h.1 h.2.1 h.2.2
    | enter f args =>
      refine Calls.mono h fun e w'' he => ?_
      obtain ⟨u, rfl, h1, h2, h3⟩ := he
      exact hK u w'' h1 h2 h3
    | _ => exact h.elim
  | halt x w' => exact h.elim

/-- The operation's own share: in any state of which all that it looks at is foretold. -/
def Ob (P : Program) (ops : Array Oper) (S : World → Prop) (E : World → World → Prop) (T : Nat → Value → World → Prop) (v : Nat) (o : Oper) : Prop :=
  ∀ (a : Act) (w : World), S w → (∀ t ∈ o.looksAt ops, T t (a.tmps.getD t undef) w ∧ a.tmps[t]? = some (a.tmps.getD t undef)) →
    if Region.wanted o (yielded ops a.tmps) = true then Lands P S E (dstR T v o.dst) w ((execOp a.eval o).run P w) else dstR T v o.dst undef w ∧ E w w

def Obs (P : Program) (ops : Array Oper) (S : World → Prop) (E : World → World → Prop) (T : Nat → Value → World → Prop) : Nat → List Oper → Prop
  | _, [] => True
  | v, o :: r => Ob P ops S E T v o ∧ Obs P ops S E T (v + 1) r

theorem Obs.at_ : ∀ {l : List Oper} {v : Nat}, Obs P ops S E T v l → ∀ (i : Nat) (o : Oper), l[i]? = some o → Ob P ops S E T (v + i) o
  | [], _, _, i, _, ho => by simp at ho
  | x :: r, v, h, i, o, ho => by
    cases i with
    | zero => simp at ho; subst ho; exact h.1
    | succ i =>
      have := Obs.at_ h.2 i o (by simpa using ho)
      rwa [show v + 1 + i = v + (i + 1) by omega] at this

/-- What is asked of the region's text: each waits for earlier ones alone, and for whatever writes what it looks at. -/
def settledB (ops : Array Oper) (n : Nat) : Bool :=
  ops.toList.zipIdx.all fun (o, i) =>
    (o.after.toList.all fun e => !Region.binds .any e || decide (e.on < i)) &&
    (match o.dst with | some d => decide (d < n) | none => true) &&
    ((o.looksAt ops).all fun t => decide (t < n) && ops.toList.zipIdx.all fun (oj, j) => oj.dst != some t || o.after.toList.any fun e => Region.binds .any e && e.on == j)

structure Settled (ops : Array Oper) (n i : Nat) (o : Oper) : Prop where
  early : ∀ e ∈ o.after, Region.binds .any e = true → e.on < i
  dst : ∀ d, o.dst = some d → d < n
  looks : ∀ t ∈ o.looksAt ops, t < n ∧ ∀ j oj, ops[j]? = some oj → oj.dst = some t → ∃ e ∈ o.after, Region.binds .any e = true ∧ e.on = j

theorem settled_of {n : Nat} (h : settledB ops n = true) {i : Nat} {o : Oper} (hi : ops[i]? = some o) : Settled ops n i o := by
  unfold settledB at h
  rw [List.all_eq_true] at h
  have hm : ∀ {j : Nat} {x : Oper}, ops[j]? = some x → (x, j) ∈ ops.toList.zipIdx := fun hj => List.mk_mem_zipIdx_iff_getElem?.2 (by simpa using hj)
  have hh := h (o, i) (hm hi)
  simp only [Bool.and_eq_true, List.all_eq_true, Bool.or_eq_true, Bool.not_eq_true', decide_eq_true_eq, List.any_eq_true, Array.mem_toList_iff, bne_iff_ne, ne_eq, beq_iff_eq] at hh
  obtain ⟨⟨h1, h2⟩, h3⟩ := hh
  refine ⟨fun e he hb => ?_, fun d hd => ?_, fun t ht => ⟨(h3 t ht).1, fun j oj hj hd => ?_⟩⟩
  · rcases h1 e he with hf | hl
    · rw [hf] at hb; cases hb
    · exact hl
  · rw [hd] at h2; simpa using h2
  · rcases (h3 t ht).2 (oj, j) (hm hj) with hf | ⟨e, he, hb, ho⟩
    · exact absurd hd hf
    · exact ⟨e, he, hb, ho⟩

/-- How many are still to come. -/
def left (ops : Array Oper) (listed : Array Bool) : Nat := ((List.range ops.size).filter fun j => !listed.getD j true).length

theorem filter_less {α : Type} {p q : α → Bool} : ∀ {l : List α}, (∀ x ∈ l, q x = true → p x = true) → (l.filter q).length ≤ (l.filter p).length
  | [], _ => by simp
  | x :: l, h => by
    have ih := filter_less (l := l) fun y hy => h y (List.mem_cons_of_mem _ hy)
    by_cases hq : q x = true
    · rw [List.filter_cons_of_pos hq, List.filter_cons_of_pos (h x (List.mem_cons_self ..) hq)]
      simpa using ih
    · rw [List.filter_cons_of_neg hq]
      by_cases hp : p x = true
      · rw [List.filter_cons_of_pos hp]; simp; omega
      · rw [List.filter_cons_of_neg hp]; exact ih

theorem filter_lt {α : Type} {p q : α → Bool} {i : α} : ∀ {l : List α}, (∀ x ∈ l, q x = true → p x = true) → i ∈ l → p i = true → q i = false → (l.filter q).length < (l.filter p).length
  | [], _, h, _, _ => by cases h
  | x :: l, h, hi, hp, hq => by
    have hl := fun y hy => h y (List.mem_cons_of_mem x hy)
    rcases List.mem_cons.1 hi with rfl | hi
    · rw [List.filter_cons_of_pos hp, List.filter_cons_of_neg (by rw [hq]; simp)]
      have := filter_less hl
      simp; omega
    · have ih := filter_lt hl hi hp hq
      by_cases hqx : q x = true
      · rw [List.filter_cons_of_pos hqx, List.filter_cons_of_pos (h x (List.mem_cons_self ..) hqx)]
        simpa using ih
      · rw [List.filter_cons_of_neg hqx]
        by_cases hpx : p x = true
        · rw [List.filter_cons_of_pos hpx]; simp; omega
        · rw [List.filter_cons_of_neg hpx]; exact ih

theorem getD_set_self {listed : Array Bool} {i : Nat} : (listed.setIfInBounds i true).getD i true = true := by
  simp only [Array.getD_eq_getD_getElem?]
  by_cases h : i < listed.size
  · simp [h]
  · simp [h]

theorem left_less {listed : Array Bool} {i : Nat} (hi : i < ops.size) (hu : listed.getD i true = false) : left ops (listed.setIfInBounds i true) < left ops listed := by
  unfold left
  refine filter_lt (i := i) (fun x _ hx => ?_) (List.mem_range.2 hi) (by rw [hu]; rfl) (by rw [getD_set_self]; rfl)
  by_cases hxi : x = i
  · subst hxi; rw [getD_set_self] at hx; cases hx
  · rwa [getD_set_ne true (Ne.symm hxi)] at hx

/-- Where nothing may come up all have come up. -/
theorem all_listed {listed : Array Bool} {n : Nat} (hs : settledB ops n = true) (hr : Region.ready .any ops listed = []) : ∀ j, j < ops.size → listed.getD j true = true := by
  intro j
  induction j using Nat.strongRecOn with
  | _ j ih =>
    intro hj
    cases hl : listed.getD j true with
    | true => rfl
    | false =>
      exfalso
      have hm : j ∈ Region.ready .any ops listed := by
        refine mem_ready.2 ⟨hl, ops[j], Array.getElem?_eq_getElem hj, fun e he hb => ?_⟩
        have h := (settled_of hs (Array.getElem?_eq_getElem hj)).early e he hb
        have h1 := ih e.on h (by omega)
        simp only [Array.getD_eq_getD_getElem?] at h1 ⊢
        cases hx : listed[e.on]? with
        | some b => rw [hx] at h1; simpa using h1
        | none =>
          -- a place beyond the list: it is listed by default; but j itself is within
          have : listed.size ≤ e.on := Array.getElem?_eq_none_iff.1 hx
          simp only [Array.getD_eq_getD_getElem?] at hl
          rw [Array.getElem?_eq_none (show listed.size ≤ j by omega)] at hl
          simp at hl
      rw [hr] at hm
      cases hm

/-- What holds in the midst of the region. -/
structure Mid (ops : Array Oper) (T : Nat → Value → World → Prop) (a0 : Act) (listed : Array Bool) (a : Act) (w : World) : Prop where
  defers : a.defers = a0.defers
  size : a.tmps.size = a0.tmps.size
  told : ∀ t, t < a0.tmps.size → (∀ j o, ops[j]? = some o → o.dst = some t → listed.getD j true = true) → T t (a.tmps.getD t undef) w
  done_ : ∀ j o, ops[j]? = some o → o.dst = none → listed.getD j true = true → T (a0.tmps.size + j) undef w

theorem settled_any {a0 : Act} (hs : settledB ops a0.tmps.size = true) (hT : ∀ t v w w', E w w' → T t v w → T t v w') (hob : Obs P ops S E T a0.tmps.size ops.toList)
    (hfin : ∀ a w, a.defers = a0.defers → a.tmps.size = a0.tmps.size → (∀ t, t < a0.tmps.size → T t (a.tmps.getD t undef) w) → (∀ j o, ops[j]? = some o → o.dst = none → T (a0.tmps.size + j) undef w) → S w → Q .normal a w) :
    ∀ (fuel : Nat) (listed : Array Bool) (a : Act) (w : World), listed.size = ops.size → left ops listed ≤ fuel → Mid ops T a0 listed a w → S w → wpAny P .any ops Q fuel listed a w := by
  have fin : ∀ (listed : Array Bool) (a : Act) (w : World), Region.ready .any ops listed = [] → Mid ops T a0 listed a w → S w → Q .normal a w := fun listed a w hr hm hS =>
    hfin a w hm.defers hm.size (fun t ht => hm.told t ht fun j o hj _ => all_listed hs hr j (Array.getElem?_eq_some_iff.1 hj).1) (fun j o hj hd => hm.done_ j o hj hd (all_listed hs hr j (Array.getElem?_eq_some_iff.1 hj).1)) hS
  intro fuel
  induction fuel with
  | zero =>
    intro listed a w hsz hleft hm hS
    have hr : Region.ready .any ops listed = [] := by
      refine List.eq_nil_iff_forall_not_mem.2 fun i hi => ?_
      obtain ⟨hu, o, ho, _⟩ := mem_ready.1 hi
      have := left_less (ops := ops) (Array.getElem?_eq_some_iff.1 ho).1 hu
      omega
    exact ⟨hr, fin listed a w hr hm hS⟩
  | succ fuel ih =>
    intro listed a w hsz hleft hm hS
    refine ⟨fun hr => fin listed a w hr hm hS, fun i hi => ?_⟩
    obtain ⟨hu, o, ho, hedges⟩ := mem_ready.1 hi
    have hisz := (Array.getElem?_eq_some_iff.1 ho).1
    have st := settled_of hs ho
    have hleft' := left_less (ops := ops) hisz hu
    -- behind the operation
    have next : ∀ u w', dstR T (a0.tmps.size + i) o.dst u w' → S w' → E w w' → wpAny P .any ops Q fuel (listed.setIfInBounds i true) (a.put o.dst u) w' := by
      intro u w' hR hS' hE
      refine ih _ _ _ (by simpa using hsz) (by omega) ⟨?_, ?_, ?_, ?_⟩ hS'
      · cases o.dst <;> exact hm.defers
      · cases o.dst with
        | none => exact hm.size
        | some d => simp [Act.put, hm.size]
      · intro t ht hall
        by_cases hd : o.dst = some t
        · have hg : (a.put o.dst u).tmps.getD t undef = u := by
            rw [hd]
            simp [Act.put, Array.getD_eq_getD_getElem?, hm.size, ht]
          rw [hg]
          exact hR.1 t hd
        · have hg : (a.put o.dst u).tmps.getD t undef = a.tmps.getD t undef := by
            cases hdd : o.dst with
            | none => rfl
            | some d =>
              have hne : d ≠ t := fun e => hd (by rw [hdd, e])
              simp [Act.put, Array.getD_eq_getD_getElem?, Array.getElem?_setIfInBounds_ne hne]
          rw [hg]
          refine hT t _ w w' hE (hm.told t ht fun j oj hj hdj => ?_)
          have hji : j ≠ i := by
            rintro rfl
            rw [ho] at hj
            injection hj with hj
            subst hj
            exact hd hdj
          have := hall j oj hj hdj
          rwa [getD_set_ne true (Ne.symm hji)] at this
      · intro j oj hj hdj hl
        by_cases hji : j = i
        · subst hji
          rw [ho] at hj
          injection hj with hj
          subst hj
          exact hR.2 hdj
        · rw [getD_set_ne true (Ne.symm hji)] at hl
          exact hT _ _ w w' hE (hm.done_ j oj hj hdj hl)
    unfold wpOp
    simp only [ho]
    have hlook : ∀ t ∈ o.looksAt ops, T t (a.tmps.getD t undef) w ∧ a.tmps[t]? = some (a.tmps.getD t undef) := by
      intro t ht
      obtain ⟨hlt, hw⟩ := st.looks t ht
      refine ⟨hm.told t hlt fun j oj hj hd => ?_, ?_⟩
      · obtain ⟨e, he, hb, rfl⟩ := hw j oj hj hd
        have := hedges e he hb
        simp only [Array.getD_eq_getD_getElem?] at this ⊢
        cases hx : listed[e.on]? with
        | some b => rw [hx] at this; simpa using this
        | none => rfl
      · rw [Array.getD_eq_getD_getElem?, Array.getElem?_eq_getElem (by rw [hm.size]; exact hlt)]
        rfl
    have h := hob.at_ i o (by simpa using ho) a w hS hlook
    by_cases hwant : Region.wanted o (yielded ops a.tmps) = true
    · rw [if_pos hwant] at h ⊢
      exact .inl (lands_wp h next)
    · rw [if_neg hwant] at h ⊢
      exact next undef w h.1 hS h.2

/-- A region that draws its order. -/
theorem wp_region_settled {id : Nat} {a0 : Act} {w0 : World} (hm : P.follows .mixedOrders = true) (hs : settledB ops a0.tmps.size = true) (hT : ∀ t v w w', E w w' → T t v w → T t v w')
    (h0 : ∀ t, t < a0.tmps.size → (∀ o ∈ ops, o.dst ≠ some t) → T t (a0.tmps.getD t undef) w0.drew) (hS : S w0.drew) (hob : Obs P ops S E T a0.tmps.size ops.toList)
    (hfin : ∀ a w, a.defers = a0.defers → a.tmps.size = a0.tmps.size → (∀ t, t < a0.tmps.size → T t (a.tmps.getD t undef) w) → (∀ j o, ops[j]? = some o → o.dst = none → T (a0.tmps.size + j) undef w) → S w → Q .normal a w) :
    (Code.region id ops true).wp P Q a0 w0 := by
  refine wp_region_any hm (settled_any hs hT hob hfin ops.size _ a0 _ (by simp) ?_ ⟨rfl, rfl, fun t ht hall => ?_, fun j o hj _ hl => ?_⟩ hS)
  · refine Nat.le_trans (List.length_filter_le _ _) ?_
    simp
  · refine h0 t ht fun o hmem hd => ?_
    obtain ⟨j, hj⟩ := Array.getElem?_of_mem hmem
    have := hall j o hj hd
    have hlt := (Array.getElem?_eq_some_iff.1 hj).1
    simp [Array.getD_eq_getD_getElem?, hlt] at this
  · have hlt := (Array.getElem?_eq_some_iff.1 hj).1
    simp [Array.getD_eq_getD_getElem?, hlt] at hl
end
/-! The same by a table: what is foretold of each slot that matters. -/
section
variable {P : Program} {ops : Array Oper} {Q : Exit → Act → World → Prop} {S : World → Prop} {E : World → World → Prop} {T : Nat → Value → World → Prop}

/-- Just this value. -/
def Is (v : Value) : Value → World → Prop := fun u _ => u = v

def tab (l : List (Nat × (Value → World → Prop))) (t : Nat) : Value → World → Prop :=
  match l.find? (fun p => p.1 == t) with
  | some p => p.2
  | none => fun _ _ => True

def Facts (T : Nat → Value → World → Prop) (a : Act) (w : World) : List Tmp → Prop
  | [] => True
  | t :: r => T t (a.tmps.getD t undef) w ∧ Facts T a w r

/-- The operation's own share, by the table: the slots that it looks at, its guard's slot. -/
def ObT (P : Program) (S : World → Prop) (E : World → World → Prop) (T : Nat → Value → World → Prop) (l : List Tmp) (g : Option (Tmp × Bool)) (v : Nat) (o : Oper) : Prop :=
  ∀ (a : Act) (w : World), S w → Facts T a w l →
    match g with
    | none => Lands P S E (dstR T v o.dst) w ((execOp a.eval o).run P w)
    | some (t, want) => ∃ b, a.tmps.getD t undef = .bool b ∧ if b = want then Lands P S E (dstR T v o.dst) w ((execOp a.eval o).run P w) else dstR T v o.dst undef w ∧ E w w

def ObsT (P : Program) (S : World → Prop) (E : World → World → Prop) (T : Nat → Value → World → Prop) : Nat → List Oper → List (List Tmp × Option (Tmp × Bool)) → Prop
  | v, o :: r, (l, g) :: k => ObT P S E T l g v o ∧ ObsT P S E T (v + 1) r k
  | _, _, _ => True

/-- The table of what is looked at is the region's. -/
def looksB (ops : Array Oper) : List Oper → List (List Tmp × Option (Tmp × Bool)) → Bool
  | [], [] => true
  | o :: r, (l, g) :: k =>
    (l.all fun t => (o.looksAt ops).contains t) &&
    (match o.guard, g with
     | none, none => true
     | some (j, want), some (t, want') => (ops[j]?).bind (·.dst) == some t && want == want' && l.contains t
     | _, _ => false) && looksB ops r k
  | _, _ => false

theorem facts_of {a : Act} {w : World} : ∀ {l : List Tmp}, (∀ t ∈ l, T t (a.tmps.getD t undef) w) → Facts T a w l
  | [], _ => trivial
  | t :: _, h => ⟨h t (List.mem_cons_self ..), facts_of fun u hu => h u (List.mem_cons_of_mem _ hu)⟩

theorem obs_of {all : Array Oper} : ∀ {l : List Oper} {k : List (List Tmp × Option (Tmp × Bool))} {v : Nat}, looksB all l k = true → ObsT P S E T v l k → Obs P all S E T v l
  | [], _, _, _, _ => trivial
  | _ :: _, [], _, h, _ => by simp [looksB] at h
  | o :: r, (l, g) :: k, v, h, hb => by
    simp only [looksB, Bool.and_eq_true, List.all_eq_true, List.contains_iff_mem] at h
    obtain ⟨⟨h1, h2⟩, h3⟩ := h
    refine ⟨fun a w hS hL => ?_, obs_of h3 hb.2⟩
    have hh := hb.1 a w hS (facts_of fun t ht => (hL t (h1 t ht)).1)
    unfold Region.wanted
    cases hg : o.guard with
    | none =>
      cases g with
      | none => simpa using hh
      | some x => rw [hg] at h2; simp at h2
    | some jw =>
      obtain ⟨j, want⟩ := jw
      cases g with
      | none => rw [hg] at h2; simp at h2
      | some x =>
        obtain ⟨t, want'⟩ := x
        rw [hg] at h2
        simp only [Bool.and_eq_true, beq_iff_eq, List.contains_iff_mem] at h2
        obtain ⟨⟨hd, rfl⟩, hm⟩ := h2
        obtain ⟨b, hv, hb'⟩ := hh
        have hy : yielded all a.tmps j = some b := by
          unfold yielded
          rw [hd, Option.bind_some, (hL t (h1 t hm)).2, hv]
        simp only [hy]
        by_cases hbw : b = want
        · subst hbw
          rw [if_pos rfl] at hb'
          simpa using hb'
        · rw [if_neg hbw] at hb'
          rw [if_neg (by simpa using hbw)]
          exact hb'

def Stable (E : World → World → Prop) (f : Value → World → Prop) : Prop := ∀ v w w', E w w' → f v w → f v w'
theorem stable_is (E : World → World → Prop) (v : Value) : Stable E (Is v) := fun _ _ _ _ h => h

def StableAll (E : World → World → Prop) : List (Nat × (Value → World → Prop)) → Prop
  | [] => True
  | p :: r => Stable E p.2 ∧ StableAll E r

theorem stable_mem : ∀ {l : List (Nat × (Value → World → Prop))}, StableAll E l → ∀ p ∈ l, Stable E p.2
  | [], _, _, h => by cases h
  | x :: r, hs, p, h => by
    rcases List.mem_cons.1 h with rfl | h
    · exact hs.1
    · exact stable_mem hs.2 p h

theorem stable_tab {l : List (Nat × (Value → World → Prop))} (hs : StableAll E l) : ∀ t v w w', E w w' → tab l t v w → tab l t v w' := by
  intro t v w w' hE h
  unfold tab at h ⊢
  cases hf : l.find? (fun p => p.1 == t) with
  | none => trivial
  | some p =>
    rw [hf] at h
    exact stable_mem hs p (List.mem_of_find?_eq_some hf) v w w' hE h

def StartAll (a0 : Act) (w : World) : List (Nat × (Value → World → Prop)) → Prop
  | [] => True
  | p :: r => p.2 (a0.tmps.getD p.1 undef) w ∧ StartAll a0 w r

theorem start_mem {a0 : Act} {w : World} : ∀ {l : List (Nat × (Value → World → Prop))}, StartAll a0 w l → ∀ p ∈ l, p.2 (a0.tmps.getD p.1 undef) w
  | [], _, _, h => by cases h
  | x :: r, hs, p, h => by
    rcases List.mem_cons.1 h with rfl | h
    · exact hs.1
    · exact start_mem hs.2 p h

/-- A region that draws its order, by two tables: what holds of slots that it does not write (l0), what is foretold of those that it writes (l1). -/
theorem wp_region_tab {id : Nat} {a0 : Act} {w0 : World} (l0 l1 : List (Nat × (Value → World → Prop))) (k : List (List Tmp × Option (Tmp × Bool)))
    (hm : P.follows .mixedOrders = true) (hs : settledB ops a0.tmps.size = true) (hk : looksB ops ops.toList k = true)
    (hw : (l1.all fun p => decide (a0.tmps.size ≤ p.1) || ops.toList.any fun o => o.dst == some p.1) = true) (hst : StableAll E (l0 ++ l1)) (hst0 : StartAll a0 w0.drew l0) (hS : S w0.drew)
    (hob : ObsT P S E (tab (l0 ++ l1)) a0.tmps.size ops.toList k)
    (hfin : ∀ a w, a.defers = a0.defers → a.tmps.size = a0.tmps.size → (∀ t, t < a0.tmps.size → tab (l0 ++ l1) t (a.tmps.getD t undef) w) → (∀ j o, ops[j]? = some o → o.dst = none → tab (l0 ++ l1) (a0.tmps.size + j) undef w) → S w → Q .normal a w) :
    (Code.region id ops true).wp P Q a0 w0 := by
  refine wp_region_settled (T := tab (l0 ++ l1)) hm hs (stable_tab hst) (fun t ht hfree => ?_) hS (obs_of hk hob) hfin
  unfold tab
  cases hf : (l0 ++ l1).find? (fun p => p.1 == t) with
  | none => trivial
  | some p =>
    have hp : p.1 = t := by simpa using List.find?_some hf
    rcases List.mem_append.1 (List.mem_of_find?_eq_some hf) with h | h
    · have := start_mem hst0 p h
      rw [hp] at this
      exact this
    · exfalso
      rw [List.all_eq_true] at hw
      have := hw p h
      simp only [Bool.or_eq_true, decide_eq_true_eq, List.any_eq_true, beq_iff_eq, Array.mem_toList_iff] at this
      rcases this with hge | ⟨o, ho, hd⟩
      · omega
      · exact hfree o ho (by rw [hd, hp])
end
end Go.Proofs.YtkjiokepihmpfaaDoor
