/- wp_region_phases, where a guard's own operation may be one that is not wanted: its slot is empty, and what hangs on it is not wanted either. No condition. -/
import Derived.Test.YtofbmlfpkcociaaDoorPhase
set_option linter.unusedVariables false
set_option linter.unusedSimpArgs false
namespace Go.Proofs.YtofbmlfpkcociaaDoor
open Go.RowKit

section
variable {P : Program} {ops : Array Oper} {ph : List Nat} {Q : Exit → Act → World → Prop} {S : List Value → World → Prop} {E : World → World → Prop} {T : Nat → Value → World → Prop}

/-- The operation's own share, by the table; the guard's slot may be empty. -/
def ObU (P : Program) (S : World → Prop) (E : World → World → Prop) (T : Nat → Value → World → Prop) (l : List Tmp) (g : Option (Tmp × Bool)) (v : Nat) (o : Oper) : Prop :=
  ∀ (a : Act) (w : World), S w → Facts T a w l →
    match g with
    | none => Lands P S E (dstR T v o.dst) w ((execOp a.eval o).run P w)
    | some (t, want) => (∃ b, a.tmps.getD t undef = .bool b ∧ if b = want then Lands P S E (dstR T v o.dst) w ((execOp a.eval o).run P w) else dstR T v o.dst undef w ∧ E w w) ∨
        (a.tmps.getD t undef = undef ∧ dstR T v o.dst undef w ∧ E w w)

theorem obsU_of {all : Array Oper} {S : World → Prop} {o : Oper} {l : List Tmp} {g : Option (Tmp × Bool)} {v : Nat} (h : looksB all [o] [(l, g)] = true) (hb : ObU P S E T l g v o) : Ob P all S E T v o := by
  intro a w hS hL
  simp only [looksB, Bool.and_eq_true, List.all_eq_true, List.contains_iff_mem] at h
  obtain ⟨⟨h1, h2⟩, -⟩ := h
  have hh := hb a w hS (facts_of fun t ht => (hL t (h1 t ht)).1)
  unfold Region.wanted
  cases hg : o.guard with
  | none =>
    cases g with
    | none => simpa using hh
    | some x => rw [hg] at h2; simp at h2
  | some jw =>
    obtain ⟨j, want⟩ := jw
    cases g with
    | none => rw [hg] at h2; simp at h2
    | some x =>
      obtain ⟨t, want'⟩ := x
      rw [hg] at h2
      simp only [Bool.and_eq_true, beq_iff_eq, List.contains_iff_mem] at h2
      obtain ⟨⟨hd, rfl⟩, hm⟩ := h2
      rcases hh with ⟨b, hv, hb'⟩ | ⟨hv, hb'⟩
      · have hy : yielded all a.tmps j = some b := by
          unfold yielded
          rw [hd, Option.bind_some, (hL t (h1 t hm)).2, hv]
        simp only [hy]
        by_cases hbw : b = want
        · subst hbw
          rw [if_pos rfl] at hb'
          simpa using hb'
        · rw [if_neg hbw] at hb'
          rw [if_neg (by simpa using hbw)]
          exact hb'
      · have hy : yielded all a.tmps j = none := by
          unfold yielded
          rw [hd, Option.bind_some, (hL t (h1 t hm)).2, hv]
          rfl
        simp only [hy]
        rw [if_neg (by simp)]
        exact hb'

def ObsU (P : Program) (S : List Value → World → Prop) (E : World → World → Prop) (T : Nat → Value → World → Prop) : Nat → List Oper → List Spec → Prop
  | v, o :: r, .op l g :: k => (∀ vals, ObU P (S vals) E T l g v o) ∧ ObsU P S E T (v + 1) r k
  | v, o :: r, .phase n l s :: k => (∀ (a : Act) (w : World) (vals : List Value), vals.length = n → S vals w → Facts T a w l → PSlots vals a s →
      Lands P (fun _ => True) E (fun u w' => S (vals ++ [u]) w') w ((execOp a.eval o).run P w)) ∧ ObsU P S E T (v + 1) r k
  | _, _, _ => True

theorem specsU_at : ∀ {l : List Oper} {k : List Spec} {v i : Nat}, specsB ops ph i l k = true → ObsU P S E T v l k → ∀ j o, l[j]? = some o →
    (∃ lk g, i + j ∉ ph ∧ looksB ops [o] [(lk, g)] = true ∧ ∀ vals, ObU P (S vals) E T lk g (v + j) o) ∨
    (∃ n lk s, ph[n]? = some (i + j) ∧ (∀ t ∈ lk, t ∈ o.looksAt ops) ∧ (∀ x ∈ s, ∃ i' oi, ph[x.1]? = some i' ∧ ops[i']? = some oi ∧ oi.dst = some x.2) ∧
      ∀ (a : Act) (w : World) (vals : List Value), vals.length = n → S vals w → Facts T a w lk → PSlots vals a s → Lands P (fun _ => True) E (fun u w' => S (vals ++ [u]) w') w ((execOp a.eval o).run P w))
  | [], _, _, _, _, _, j, _, hj => by simp at hj
  | _ :: _, [], _, _, h, _, _, _, _ => by simp [specsB] at h
  | x :: r, .op l g :: k, v, i, h, hb, j, o, hj => by
    simp only [specsB, Bool.and_eq_true, Bool.not_eq_true'] at h
    cases j with
    | zero =>
      simp at hj; subst hj
      refine .inl ⟨l, g, ?_, h.1.2, hb.1⟩
      intro hm
      have := List.contains_iff_mem.2 hm
      rw [Nat.add_zero, h.1.1] at this
      cases this
    | succ j =>
      have := specsU_at h.2 hb.2 j o (by simpa using hj)
      rwa [show i + 1 + j = i + (j + 1) by omega, show v + 1 + j = v + (j + 1) by omega] at this
  | x :: r, .phase n l s :: k, v, i, h, hb, j, o, hj => by
    simp only [specsB, Bool.and_eq_true, beq_iff_eq, List.all_eq_true, List.contains_iff_mem] at h
    cases j with
    | zero =>
      simp at hj; subst hj
      refine .inr ⟨n, l, s, h.1.1.1, h.1.1.2, fun y hy => ?_, hb.1⟩
      have h2 := h.1.2 y hy
      cases h3 : ph[y.1]? with
      | none => rw [h3] at h2; cases h2
      | some i' =>
        rw [h3] at h2
        simp only [beq_iff_eq, Option.bind_eq_some_iff] at h2
        obtain ⟨oi, h4, h5⟩ := h2
        exact ⟨i', oi, rfl, h4, h5⟩
    | succ j =>
      have := specsU_at h.2 hb.2 j o (by simpa using hj)
      rwa [show i + 1 + j = i + (j + 1) by omega, show v + 1 + j = v + (j + 1) by omega] at this

/-- A region that draws its order, with phases, by tables. -/
theorem wp_region_phu {id : Nat} {a0 : Act} {w0 : World} (ph : List Nat) (l0 l1 : List (Nat × (Value → World → Prop))) (k : List Spec)
    (hm : P.follows .mixedOrders = true) (hs : settledB ops a0.tmps.size = true) (hp : phasesB ops ph = true) (hk : specsB ops ph 0 ops.toList k = true)
    (hq : quietB ops ph a0.tmps.size ((l0 ++ l1).map (·.1)) = true)
    (hw : (l1.all fun p => decide (a0.tmps.size ≤ p.1) || ops.toList.any fun o => o.dst == some p.1) = true) (hst : StableAll E (l0 ++ l1)) (hst0 : StartAll a0 w0.drew l0) (hS : S [] w0.drew)
    (hob : ObsU P S E (tab (l0 ++ l1)) a0.tmps.size ops.toList k)
    (hfin : ∀ a w vals, a.defers = a0.defers → a.tmps.size = a0.tmps.size → (∀ t, t < a0.tmps.size → tab (l0 ++ l1) t (a.tmps.getD t undef) w) → (∀ j o, ops[j]? = some o → o.dst = none → tab (l0 ++ l1) (a0.tmps.size + j) undef w) →
      vals.length = ph.length → PFacts ops ph vals a → S vals w → Q .normal a w) :
    (Code.region id ops true).wp P Q a0 w0 := by
  have hall := specsU_at hk hob
  refine wp_region_any hm (phases_any (S := S) (T := tab (l0 ++ l1)) hs hp (stable_tab hst) ?_ ?_ ?_ hfin ops.size _ a0 _ (by simp) ?_ ⟨⟨rfl, rfl, fun t ht hfree => ?_, fun j o hj _ hl => ?_⟩, [], by simp, ?_, ?_, hS⟩)
  · intro i hi o ho
    unfold quietB at hq
    rw [List.all_eq_true] at hq
    have := hq i hi
    rw [ho] at this
    refine ⟨fun t ht u w => ?_, fun hd u w => ?_⟩
    · simp only [ht] at this
      exact tab_free (by simpa using this) u w
    · simp only [hd] at this
      exact tab_free (by simpa using this) u w
  · intro i o hi ho vals
    rcases hall i o (by simpa using ho) with ⟨lk, g, h1, h2, h3⟩ | ⟨n, lk, s, h1, _⟩
    · exact obsU_of (P := P) (S := S vals) (E := E) (T := tab (l0 ++ l1)) (v := a0.tmps.size + i) h2 (h3 vals)
    · rw [Nat.zero_add] at h1
      exact absurd (List.mem_of_getElem? h1) hi
  · intro n i o hi ho a w vals hv hSv hl hpf
    rcases hall i o (by simpa using ho) with ⟨lk, g, h1, h2, h3⟩ | ⟨n', lk, s, h1, h2, h3, h4⟩
    · rw [Nat.zero_add] at h1
      exact absurd (List.mem_of_getElem? hi) h1
    · rw [Nat.zero_add] at h1
      obtain ⟨o', _, hph'⟩ := phased_of hp hi
      have := hph'.once n' h1
      subst this
      refine h4 a w vals hv hSv (facts_of fun t ht => hl t (h2 t ht)) ?_
      have : ∀ s' : List (Nat × Tmp), (∀ x ∈ s', x ∈ s) → PSlots vals a s' := by
        intro s'
        induction s' with
        | nil => intro _; trivial
        | cons x r ih =>
          intro hx
          obtain ⟨i', oi, q1, q2, q3⟩ := h3 x (hx x (List.mem_cons_self ..))
          exact ⟨fun hlt => hpf x.1 i' oi x.2 q1 hlt q2 q3, ih fun y hy => hx y (List.mem_cons_of_mem _ hy)⟩
      exact this s fun _ h => h
  · refine Nat.le_trans (List.length_filter_le _ _) ?_
    simp
  · unfold tab
    cases hf : (l0 ++ l1).find? (fun p => p.1 == t) with
    | none => trivial
    | some p =>
      have hpt : p.1 = t := by simpa using List.find?_some hf
      rcases List.mem_append.1 (List.mem_of_find?_eq_some hf) with h | h
      · have := start_mem hst0 p h
        rw [hpt] at this
        exact this
      · exfalso
        rw [List.all_eq_true] at hw
        have := hw p h
        simp only [Bool.or_eq_true, decide_eq_true_eq, List.any_eq_true, beq_iff_eq, Array.mem_toList_iff] at this
        rcases this with hge | ⟨o, ho, hd⟩
        · omega
        · obtain ⟨j, hj⟩ := Array.getElem?_of_mem ho
          have := hfree j o hj (by rw [hd, hpt])
          have hlt := (Array.getElem?_eq_some_iff.1 hj).1
          simp [Array.getD_eq_getD_getElem?, hlt] at this
  · have hlt := (Array.getElem?_eq_some_iff.1 hj).1
    simp [Array.getD_eq_getD_getElem?, hlt] at hl
  · intro k2 i2 h2
    obtain ⟨o, ho, _⟩ := phased_of hp h2
    have hlt := (Array.getElem?_eq_some_iff.1 ho).1
    simp [Array.getD_eq_getD_getElem?, hlt]
  · intro k2 i2 o2 t2 _ hlt
    simp at hlt
end
end Go.Proofs.YtofbmlfpkcociaaDoor
