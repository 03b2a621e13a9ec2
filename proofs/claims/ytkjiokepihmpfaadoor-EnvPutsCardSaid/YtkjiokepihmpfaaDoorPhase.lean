/- A region that draws its order and in which some operations stand in a forced order among themselves (an append, then the store of what it made): what holds between them by how many have been done. No condition. -/
import Derived.Test.YtkjiokepihmpfaaDoorSettle
set_option linter.unusedVariables false
set_option linter.unusedSimpArgs false
namespace Go.Proofs.YtkjiokepihmpfaaDoor
open Go.RowKit

section
variable {P : Program} {ops : Array Oper} {ph : List Nat} {Q : Exit → Act → World → Prop} {S : List Value → World → Prop} {E : World → World → Prop} {T : Nat → Value → World → Prop}

/-- The values of the phases' slots. -/
def PFacts (ops : Array Oper) (ph : List Nat) (vals : List Value) (a : Act) : Prop := ∀ k i o t, ph[k]? = some i → k < vals.length → ops[i]? = some o → o.dst = some t → vals[k]? = some (a.tmps.getD t undef)

/-- A phase's own share. -/
def PhOb (P : Program) (ops : Array Oper) (ph : List Nat) (S : List Value → World → Prop) (E : World → World → Prop) (T : Nat → Value → World → Prop) (k : Nat) (o : Oper) : Prop :=
  ∀ (a : Act) (w : World) (vals : List Value), vals.length = k → S vals w → (∀ t ∈ o.looksAt ops, T t (a.tmps.getD t undef) w) → PFacts ops ph vals a →
    Lands P (fun _ => True) E (fun u w' => S (vals ++ [u]) w') w ((execOp a.eval o).run P w)

/-- What is asked of the region's text on its phases. -/
def phasesB (ops : Array Oper) (ph : List Nat) : Bool :=
  ph.zipIdx.all fun (i, k) =>
    (match ops[i]? with
     | none => false
     | some o => o.guard.isNone && (match o.dst with
        | none => true
        | some t => ops.toList.zipIdx.all fun (oj, j) => j == i || oj.dst != some t) &&
       (k == 0 || match ph[k - 1]? with
        | none => false
        | some i' => o.after.toList.any fun e => Region.binds .any e && e.on == i')) &&
    ph.zipIdx.all fun (i', k') => k' == k || i' != i

structure Phased (ops : Array Oper) (ph : List Nat) (k i : Nat) (o : Oper) : Prop where
  guard : o.guard = none
  alone : ∀ t, o.dst = some t → ∀ j oj, ops[j]? = some oj → oj.dst = some t → j = i
  prev : ∀ k' i', k = k' + 1 → ph[k']? = some i' → ∃ e ∈ o.after, Region.binds .any e = true ∧ e.on = i'
  once : ∀ k', ph[k']? = some i → k' = k

theorem phased_of (h : phasesB ops ph = true) {k i : Nat} (hk : ph[k]? = some i) : ∃ o, ops[i]? = some o ∧ Phased ops ph k i o := by
  unfold phasesB at h
  rw [List.all_eq_true] at h
  have hh := h (i, k) (List.mk_mem_zipIdx_iff_getElem?.2 hk)
  simp only [Bool.and_eq_true, List.all_eq_true, Bool.or_eq_true] at hh
  obtain ⟨h1, h2⟩ := hh
  cases ho : ops[i]? with
  | none => rw [ho] at h1; cases h1
  | some o =>
    rw [ho] at h1
    simp only [Bool.and_eq_true, Bool.or_eq_true, Option.isNone_iff_eq_none, beq_iff_eq] at h1
    obtain ⟨⟨g1, g2⟩, g3⟩ := h1
    refine ⟨o, rfl, g1, fun t ht j oj hj hd => ?_, fun k' i' hkk hi' => ?_, fun k' hk' => ?_⟩
    · rw [ht] at g2
      simp only [List.all_eq_true, Bool.or_eq_true, beq_iff_eq, bne_iff_ne, ne_eq] at g2
      rcases g2 (oj, j) (List.mk_mem_zipIdx_iff_getElem?.2 (by simpa using hj)) with e | e
      · exact e
      · exact absurd hd e
    · subst hkk
      rcases g3 with e | e
      · omega
      · rw [Nat.add_sub_cancel, hi'] at e
        simp only [List.any_eq_true, Bool.and_eq_true, beq_iff_eq, Array.mem_toList_iff] at e
        exact e
    · have := h2 (i, k') (List.mk_mem_zipIdx_iff_getElem?.2 hk')
      simpa using this

structure MidP (ops : Array Oper) (ph : List Nat) (S : List Value → World → Prop) (T : Nat → Value → World → Prop) (a0 : Act) (listed : Array Bool) (a : Act) (w : World) : Prop where
  mid : Mid ops T a0 listed a w
  phase : ∃ vals : List Value, vals.length ≤ ph.length ∧ (∀ k i, ph[k]? = some i → listed.getD i true = decide (k < vals.length)) ∧ PFacts ops ph vals a ∧ S vals w

theorem getD_put_ne {a : Act} {d t : Tmp} {u : Value} (h : d ≠ t) : (a.put (some d) u).tmps.getD t undef = a.tmps.getD t undef := by
  simp [Act.put, Array.getD_eq_getD_getElem?, Array.getElem?_setIfInBounds_ne h]
theorem getD_put_self {a : Act} {d : Tmp} {u : Value} (h : d < a.tmps.size) : (a.put (some d) u).tmps.getD d undef = u := by
  simp [Act.put, Array.getD_eq_getD_getElem?, h]

theorem phases_any {a0 : Act} (hs : settledB ops a0.tmps.size = true) (hp : phasesB ops ph = true) (hT : ∀ t v w w', E w w' → T t v w → T t v w')
    (hTp : ∀ i ∈ ph, ∀ o, ops[i]? = some o → (∀ t, o.dst = some t → ∀ u w, T t u w) ∧ (o.dst = none → ∀ u w, T (a0.tmps.size + i) u w))
    (hob : ∀ i o, i ∉ ph → ops[i]? = some o → ∀ vals, Ob P ops (S vals) E T (a0.tmps.size + i) o) (hph : ∀ k i o, ph[k]? = some i → ops[i]? = some o → PhOb P ops ph S E T k o)
    (hfin : ∀ a w vals, a.defers = a0.defers → a.tmps.size = a0.tmps.size → (∀ t, t < a0.tmps.size → T t (a.tmps.getD t undef) w) → (∀ j o, ops[j]? = some o → o.dst = none → T (a0.tmps.size + j) undef w) → vals.length = ph.length → PFacts ops ph vals a → S vals w → Q .normal a w) :
    ∀ (fuel : Nat) (listed : Array Bool) (a : Act) (w : World), listed.size = ops.size → left ops listed ≤ fuel → MidP ops ph S T a0 listed a w → wpAny P .any ops Q fuel listed a w := by
  have fin : ∀ (listed : Array Bool) (a : Act) (w : World), Region.ready .any ops listed = [] → MidP ops ph S T a0 listed a w → Q .normal a w := by
    intro listed a w hr hm
    obtain ⟨vals, hv1, hv2, hv3, hv4⟩ := hm.phase
    refine hfin a w vals hm.mid.defers hm.mid.size (fun t ht => hm.mid.told t ht fun j o hj _ => all_listed hs hr j (Array.getElem?_eq_some_iff.1 hj).1)
      (fun j o hj hd => hm.mid.done_ j o hj hd (all_listed hs hr j (Array.getElem?_eq_some_iff.1 hj).1)) ?_ hv3 hv4
    rcases Nat.lt_or_ge vals.length ph.length with h | h
    · have h1 := hv2 vals.length _ (List.getElem?_eq_getElem h)
      obtain ⟨o, ho, _⟩ := phased_of hp (List.getElem?_eq_getElem h)
      rw [all_listed hs hr _ (Array.getElem?_eq_some_iff.1 ho).1] at h1
      simp at h1
    · omega
  intro fuel
  induction fuel with
  | zero =>
    intro listed a w hsz hleft hm
    have hr : Region.ready .any ops listed = [] := by
      refine List.eq_nil_iff_forall_not_mem.2 fun i hi => ?_
      obtain ⟨hu, o, ho, _⟩ := mem_ready.1 hi
      have := left_less (ops := ops) (Array.getElem?_eq_some_iff.1 ho).1 hu
      omega
    exact ⟨hr, fin listed a w hr hm⟩
  | succ fuel ih =>
    intro listed a w hsz hleft hm
    refine ⟨fun hr => fin listed a w hr hm, fun i hi => ?_⟩
    obtain ⟨hu, o, ho, hedges⟩ := mem_ready.1 hi
    have hisz := (Array.getElem?_eq_some_iff.1 ho).1
    have st := settled_of hs ho
    have hleft' := left_less (ops := ops) hisz hu
    obtain ⟨vals, hv1, hv2, hv3, hv4⟩ := hm.phase
    -- behind the operation, what is foretold
    have next : ∀ u w', dstR T (a0.tmps.size + i) o.dst u w' → E w w' → Mid ops T a0 (listed.setIfInBounds i true) (a.put o.dst u) w' := by
      intro u w' hR hE
      refine ⟨?_, ?_, ?_, ?_⟩
      · cases o.dst <;> exact hm.mid.defers
      · cases o.dst with
        | none => exact hm.mid.size
        | some d => simp [Act.put, hm.mid.size]
      · intro t ht hall
        by_cases hd : o.dst = some t
        · rw [hd, getD_put_self (by rw [hm.mid.size]; exact ht)]
          exact hR.1 t hd
        · have hg : (a.put o.dst u).tmps.getD t undef = a.tmps.getD t undef := by
            cases hdd : o.dst with
            | none => rfl
            | some d => exact getD_put_ne fun e => hd (by rw [hdd, e])
          rw [hg]
          refine hT t _ w w' hE (hm.mid.told t ht fun j oj hj hdj => ?_)
          have hji : j ≠ i := by
            rintro rfl
            rw [ho] at hj
            injection hj with hj
            subst hj
            exact hd hdj
          have := hall j oj hj hdj
          rwa [getD_set_ne true (Ne.symm hji)] at this
      · intro j oj hj hdj hl
        by_cases hji : j = i
        · subst hji
          rw [ho] at hj
          injection hj with hj
          subst hj
          exact hR.2 hdj
        · rw [getD_set_ne true (Ne.symm hji)] at hl
          exact hT _ _ w w' hE (hm.mid.done_ j oj hj hdj hl)
    unfold wpOp
    simp only [ho]
    have hlook : ∀ t ∈ o.looksAt ops, T t (a.tmps.getD t undef) w ∧ a.tmps[t]? = some (a.tmps.getD t undef) := by
      intro t ht
      obtain ⟨hlt, hw⟩ := st.looks t ht
      refine ⟨hm.mid.told t hlt fun j oj hj hd => ?_, ?_⟩
      · obtain ⟨e, he, hb, rfl⟩ := hw j oj hj hd
        have := hedges e he hb
        simp only [Array.getD_eq_getD_getElem?] at this ⊢
        cases hx : listed[e.on]? with
        | some b => rw [hx] at this; simpa using this
        | none => rfl
      · rw [Array.getD_eq_getD_getElem?, Array.getElem?_eq_getElem (by rw [hm.mid.size]; exact hlt)]
        rfl
    by_cases hiph : i ∈ ph
    · obtain ⟨k, hk⟩ := List.getElem?_of_mem hiph
      obtain ⟨o', ho', hph'⟩ := phased_of hp hk
      rw [ho] at ho'
      injection ho' with ho'
      subst ho'
      have hkl : ¬ k < vals.length := by
        have := hv2 k i hk
        rw [hu] at this
        simpa using this
      have hkv : vals.length = k := by
        rcases Nat.lt_or_ge vals.length k with hlt | hge
        · exfalso
          obtain ⟨k', rfl⟩ : ∃ k', k = k' + 1 := ⟨k - 1, by omega⟩
          have hk1 : k' < ph.length := by have := (List.getElem?_eq_some_iff.1 hk).1; omega
          obtain ⟨e, he, hb, hon⟩ := hph'.prev k' _ rfl (List.getElem?_eq_getElem hk1)
          have h1 := hedges e he hb
          have h2 := hv2 k' _ (List.getElem?_eq_getElem hk1)
          rw [← hon] at h2
          have h3 : listed.getD e.on true = true := by
            simp only [Array.getD_eq_getD_getElem?] at h1 ⊢
            cases hx : listed[e.on]? with
            | some b => rw [hx] at h1; simpa using h1
            | none => rfl
          rw [h3] at h2
          have : k' < vals.length := by simpa using h2.symm
          omega
        · omega
      have hwant : Region.wanted o (yielded ops a.tmps) = true := by simp [Region.wanted, hph'.guard]
      rw [if_pos hwant]
      have hl := hph k i o hk ho a w vals hkv hv4 (fun t ht => (hlook t ht).1) hv3
      refine .inl (lands_wp hl fun u w' hR _ hE => ?_)
      have hTT := hTp i hiph o ho
      refine ih _ _ _ (by simpa using hsz) (by omega) ⟨next u w' ⟨fun d hd => hTT.1 d hd _ _, fun hd => hTT.2 hd _ _⟩ hE, vals ++ [u], ?_, ?_, ?_, hR⟩
      · have := (List.getElem?_eq_some_iff.1 hk).1
        simp; omega
      · intro k2 i2 h2
        by_cases h22 : i2 = i
        · subst h22
          have := hph'.once k2 h2
          subst this
          rw [getD_set_self]
          simp; omega
        · rw [getD_set_ne true (Ne.symm h22), hv2 k2 i2 h2]
          have : k2 ≠ k := by rintro rfl; rw [hk] at h2; injection h2 with h2; exact h22 h2.symm
          simp; omega
      · intro k2 i2 o2 t2 h2 hlt ho2 hd2
        by_cases h22 : i2 = i
        · subst h22
          have := hph'.once k2 h2
          subst this
          rw [ho] at ho2
          injection ho2 with ho2
          subst ho2
          rw [hd2, getD_put_self (by rw [hm.mid.size]; exact st.dst _ hd2), ← hkv]
          simp
        · have hne : k2 ≠ k := by rintro rfl; rw [hk] at h2; injection h2 with h2; exact h22 h2.symm
          have hlt2 : k2 < vals.length := by simp at hlt; omega
          have hg : (a.put o.dst u).tmps.getD t2 undef = a.tmps.getD t2 undef := by
            cases hdd : o.dst with
            | none => rfl
            | some d =>
              refine getD_put_ne fun e => h22 ?_
              subst e
              exact hph'.alone d hdd i2 o2 ho2 hd2
          rw [hg, List.getElem?_append_left hlt2]
          exact hv3 k2 i2 o2 t2 h2 hlt2 ho2 hd2
    · have h := hob i o hiph ho vals a w hv4 hlook
      have goon : ∀ u w', dstR T (a0.tmps.size + i) o.dst u w' → S vals w' → E w w' → wpAny P .any ops Q fuel (listed.setIfInBounds i true) (a.put o.dst u) w' := by
        intro u w' hR hS hE
        refine ih _ _ _ (by simpa using hsz) (by omega) ⟨next u w' hR hE, vals, hv1, ?_, ?_, hS⟩
        · intro k2 i2 h2
          have h22 : i2 ≠ i := by rintro rfl; exact hiph (List.mem_of_getElem? h2)
          rw [getD_set_ne true (Ne.symm h22), hv2 k2 i2 h2]
        · intro k2 i2 o2 t2 h2 hlt ho2 hd2
          have hg : (a.put o.dst u).tmps.getD t2 undef = a.tmps.getD t2 undef := by
            cases hdd : o.dst with
            | none => rfl
            | some d =>
              refine getD_put_ne fun e => ?_
              subst e
              obtain ⟨o3, ho3, hph3⟩ := phased_of hp h2
              rw [ho2] at ho3
              injection ho3 with ho3
              subst ho3
              have := hph3.alone d hd2 i o ho hdd
              subst this
              exact hiph (List.mem_of_getElem? h2)
          rw [hg]
          exact hv3 k2 i2 o2 t2 h2 hlt ho2 hd2
      by_cases hwant : Region.wanted o (yielded ops a.tmps) = true
      · rw [if_pos hwant] at h ⊢
        exact .inl (lands_wp h goon)
      · rw [if_neg hwant] at h ⊢
        exact goon undef w h.1 hv4 h.2

/-- One operation's share by the table: the slots that it looks at, its guard's slot; of a phase: the phases' slots that it looks at. -/
inductive Spec where
  | op (l : List Tmp) (g : Option (Tmp × Bool))
  | phase (k : Nat) (l : List Tmp) (s : List (Nat × Tmp))

def PSlots (vals : List Value) (a : Act) : List (Nat × Tmp) → Prop
  | [] => True
  | (k, t) :: r => (k < vals.length → vals[k]? = some (a.tmps.getD t undef)) ∧ PSlots vals a r

def ObsP (P : Program) (S : List Value → World → Prop) (E : World → World → Prop) (T : Nat → Value → World → Prop) : Nat → List Oper → List Spec → Prop
  | v, o :: r, .op l g :: k => (∀ vals, ObT P (S vals) E T l g v o) ∧ ObsP P S E T (v + 1) r k
  | v, o :: r, .phase n l s :: k => (∀ (a : Act) (w : World) (vals : List Value), vals.length = n → S vals w → Facts T a w l → PSlots vals a s →
      Lands P (fun _ => True) E (fun u w' => S (vals ++ [u]) w') w ((execOp a.eval o).run P w)) ∧ ObsP P S E T (v + 1) r k
  | _, _, _ => True

/-- The table is the region's. -/
def specsB (ops : Array Oper) (ph : List Nat) : Nat → List Oper → List Spec → Bool
  | _, [], [] => true
  | i, o :: r, .op l g :: k => !ph.contains i && looksB ops [o] [(l, g)] && specsB ops ph (i + 1) r k
  | i, o :: r, .phase n l s :: k => ph[n]? == some i && (l.all fun t => (o.looksAt ops).contains t) &&
      (s.all fun (j, t) => match ph[j]? with
        | none => false
        | some i' => (ops[i']?).bind (·.dst) == some t) && specsB ops ph (i + 1) r k
  | _, _, _ => false

theorem specs_at : ∀ {l : List Oper} {k : List Spec} {v i : Nat}, specsB ops ph i l k = true → ObsP P S E T v l k → ∀ j o, l[j]? = some o →
    (∃ lk g, i + j ∉ ph ∧ looksB ops [o] [(lk, g)] = true ∧ ∀ vals, ObT P (S vals) E T lk g (v + j) o) ∨
    (∃ n lk s, ph[n]? = some (i + j) ∧ (∀ t ∈ lk, t ∈ o.looksAt ops) ∧ (∀ x ∈ s, ∃ i' oi, ph[x.1]? = some i' ∧ ops[i']? = some oi ∧ oi.dst = some x.2) ∧
      ∀ (a : Act) (w : World) (vals : List Value), vals.length = n → S vals w → Facts T a w lk → PSlots vals a s → Lands P (fun _ => True) E (fun u w' => S (vals ++ [u]) w') w ((execOp a.eval o).run P w))
  | [], _, _, _, _, _, j, _, hj => by simp at hj
  | _ :: _, [], _, _, h, _, _, _, _ => by simp [specsB] at h
  | x :: r, .op l g :: k, v, i, h, hb, j, o, hj => by
    simp only [specsB, Bool.and_eq_true, Bool.not_eq_true'] at h
    cases j with
    | zero =>
      simp at hj; subst hj
      refine .inl ⟨l, g, ?_, h.1.2, hb.1⟩
      intro hm
      have := List.contains_iff_mem.2 hm
      rw [Nat.add_zero, h.1.1] at this
      cases this
    | succ j =>
      have := specs_at h.2 hb.2 j o (by simpa using hj)
      rwa [show i + 1 + j = i + (j + 1) by omega, show v + 1 + j = v + (j + 1) by omega] at this
  | x :: r, .phase n l s :: k, v, i, h, hb, j, o, hj => by
    simp only [specsB, Bool.and_eq_true, beq_iff_eq, List.all_eq_true, List.contains_iff_mem] at h
    cases j with
    | zero =>
      simp at hj; subst hj
      refine .inr ⟨n, l, s, h.1.1.1, h.1.1.2, fun y hy => ?_, hb.1⟩
      have h2 := h.1.2 y hy
      cases h3 : ph[y.1]? with
      | none => rw [h3] at h2; cases h2
      | some i' =>
        rw [h3] at h2
        simp only [beq_iff_eq, Option.bind_eq_some_iff] at h2
        obtain ⟨oi, h4, h5⟩ := h2
        exact ⟨i', oi, rfl, h4, h5⟩
    | succ j =>
      have := specs_at h.2 hb.2 j o (by simpa using hj)
      rwa [show i + 1 + j = i + (j + 1) by omega, show v + 1 + j = v + (j + 1) by omega] at this

/-- The table tells nothing of the phases' slots. -/
def quietB (ops : Array Oper) (ph : List Nat) (n : Nat) (keys : List Nat) : Bool :=
  ph.all fun i => match ops[i]? with
    | none => false
    | some o => match o.dst with
      | some t => !keys.contains t
      | none => !keys.contains (n + i)

theorem tab_free {l : List (Nat × (Value → World → Prop))} {t : Nat} (h : (l.map (·.1)).contains t = false) (u : Value) (w : World) : tab l t u w := by
  unfold tab
  cases hf : l.find? (fun p => p.1 == t) with
  | none => trivial
  | some p =>
    have h1 := List.mem_of_find?_eq_some hf
    have h2 : p.1 = t := by simpa using List.find?_some hf
    have : (l.map (·.1)).contains t = true := List.contains_iff_mem.2 (h2 ▸ List.mem_map_of_mem h1)
    rw [h] at this
    cases this

/-- A region that draws its order, with phases, by tables. -/
theorem wp_region_phases {id : Nat} {a0 : Act} {w0 : World} (ph : List Nat) (l0 l1 : List (Nat × (Value → World → Prop))) (k : List Spec)
    (hm : P.follows .mixedOrders = true) (hs : settledB ops a0.tmps.size = true) (hp : phasesB ops ph = true) (hk : specsB ops ph 0 ops.toList k = true)
    (hq : quietB ops ph a0.tmps.size ((l0 ++ l1).map (·.1)) = true)
    (hw : (l1.all fun p => decide (a0.tmps.size ≤ p.1) || ops.toList.any fun o => o.dst == some p.1) = true) (hst : StableAll E (l0 ++ l1)) (hst0 : StartAll a0 w0.drew l0) (hS : S [] w0.drew)
    (hob : ObsP P S E (tab (l0 ++ l1)) a0.tmps.size ops.toList k)
    (hfin : ∀ a w vals, a.defers = a0.defers → a.tmps.size = a0.tmps.size → (∀ t, t < a0.tmps.size → tab (l0 ++ l1) t (a.tmps.getD t undef) w) → (∀ j o, ops[j]? = some o → o.dst = none → tab (l0 ++ l1) (a0.tmps.size + j) undef w) →
      vals.length = ph.length → PFacts ops ph vals a → S vals w → Q .normal a w) :
    (Code.region id ops true).wp P Q a0 w0 := by
  have hall := specs_at hk hob
  refine wp_region_any hm (phases_any (S := S) (T := tab (l0 ++ l1)) hs hp (stable_tab hst) ?_ ?_ ?_ hfin ops.size _ a0 _ (by simp) ?_ ⟨⟨rfl, rfl, fun t ht hfree => ?_, fun j o hj _ hl => ?_⟩, [], by simp, ?_, ?_, hS⟩)
  · intro i hi o ho
    unfold quietB at hq
    rw [List.all_eq_true] at hq
    have := hq i hi
    rw [ho] at this
    refine ⟨fun t ht u w => ?_, fun hd u w => ?_⟩
    · simp only [ht] at this
      exact tab_free (by simpa using this) u w
    · simp only [hd] at this
      exact tab_free (by simpa using this) u w
  · intro i o hi ho vals
    rcases hall i o (by simpa using ho) with ⟨lk, g, h1, h2, h3⟩ | ⟨n, lk, s, h1, _⟩
    · have := obs_of (P := P) (S := S vals) (E := E) (T := tab (l0 ++ l1)) (v := a0.tmps.size + i) h2 ⟨h3 vals, trivial⟩
      exact this.1
    · rw [Nat.zero_add] at h1
      exact absurd (List.mem_of_getElem? h1) hi
  · intro n i o hi ho a w vals hv hSv hl hpf
    rcases hall i o (by simpa using ho) with ⟨lk, g, h1, h2, h3⟩ | ⟨n', lk, s, h1, h2, h3, h4⟩
    · rw [Nat.zero_add] at h1
      exact absurd (List.mem_of_getElem? hi) h1
    · rw [Nat.zero_add] at h1
      obtain ⟨o', _, hph'⟩ := phased_of hp hi
      have := hph'.once n' h1
      subst this
      refine h4 a w vals hv hSv (facts_of fun t ht => hl t (h2 t ht)) ?_
      have : ∀ s' : List (Nat × Tmp), (∀ x ∈ s', x ∈ s) → PSlots vals a s' := by
        intro s'
        induction s' with
        | nil => intro _; trivial
        | cons x r ih =>
          intro hx
          obtain ⟨i', oi, q1, q2, q3⟩ := h3 x (hx x (List.mem_cons_self ..))
          exact ⟨fun hlt => hpf x.1 i' oi x.2 q1 hlt q2 q3, ih fun y hy => hx y (List.mem_cons_of_mem _ hy)⟩
      exact this s fun _ h => h
  · refine Nat.le_trans (List.length_filter_le _ _) ?_
    simp
  · unfold tab
    cases hf : (l0 ++ l1).find? (fun p => p.1 == t) with
    | none => trivial
    | some p =>
      have hpt : p.1 = t := by simpa using List.find?_some hf
      rcases List.mem_append.1 (List.mem_of_find?_eq_some hf) with h | h
      · have := start_mem hst0 p h
        rw [hpt] at this
        exact this
      · exfalso
        rw [List.all_eq_true] at hw
        have := hw p h
        simp only [Bool.or_eq_true, decide_eq_true_eq, List.any_eq_true, beq_iff_eq, Array.mem_toList_iff] at this
        rcases this with hge | ⟨o, ho, hd⟩
        · omega
        · obtain ⟨j, hj⟩ := Array.getElem?_of_mem ho
          have := hfree j o hj (by rw [hd, hpt])
          have hlt := (Array.getElem?_eq_some_iff.1 hj).1
          simp [Array.getD_eq_getD_getElem?, hlt] at this
  · have hlt := (Array.getElem?_eq_some_iff.1 hj).1
    simp [Array.getD_eq_getD_getElem?, hlt] at hl
  · intro k2 i2 h2
    obtain ⟨o, ho, _⟩ := phased_of hp h2
    have hlt := (Array.getElem?_eq_some_iff.1 ho).1
    simp [Array.getD_eq_getD_getElem?, hlt]
  · intro k2 i2 o2 t2 _ hlt
    simp at hlt
end
end Go.Proofs.YtkjiokepihmpfaaDoor
