/- A region that draws its order, with operations (blocks made, boxes filled) of which some only stand in a forced order: what holds by WHICH of them have been done. No condition. -/
import Derived.Test.YtkjiokepihmpfaaDoorPhase
set_option linter.unusedVariables false
set_option linter.unusedSimpArgs false
namespace Go.Proofs.YtkjiokepihmpfaaDoor
open Go.RowKit

section
variable {P : Program} {ops : Array Oper} {ph : List Nat} {Q : Exit → Act → World → Prop} {S : List (Option Value) → World → Prop} {E : World → World → Prop} {T : Nat → Value → World → Prop}

/-- The values of the phases' slots, of those that are done. -/
def QFacts (ops : Array Oper) (ph : List Nat) (vals : List (Option Value)) (a : Act) : Prop := ∀ (k i : Nat) (o : Oper) (t : Tmp) (u : Value), ph[k]? = some i → ops[i]? = some o → o.dst = some t → vals[k]? = some (some u) → u = a.tmps.getD t undef

/-- A phase's own share. -/
def QhOb (P : Program) (ops : Array Oper) (ph : List Nat) (S : List (Option Value) → World → Prop) (E : World → World → Prop) (T : Nat → Value → World → Prop) (k : Nat) (o : Oper) : Prop :=
  ∀ (a : Act) (w : World) (vals : List (Option Value)), vals.length = ph.length → vals[k]? = some none → S vals w → (∀ t ∈ o.looksAt ops, T t (a.tmps.getD t undef) w) → QFacts ops ph vals a →
    (∀ (j i : Nat), ph[j]? = some i → (∃ e ∈ o.after, Region.binds .any e = true ∧ e.on = i) → ∃ u, vals[j]? = some (some u)) →
    Lands P (fun _ => True) E (fun u w' => S (vals.set k (some u)) w') w ((execOp a.eval o).run P w)

/-- What is asked of the region's text on its phases. -/
def partsB (ops : Array Oper) (ph : List Nat) : Bool :=
  ph.zipIdx.all fun (i, k) =>
    (match ops[i]? with
     | none => false
     | some o => o.guard.isNone && (match o.dst with
        | none => true
        | some t => ops.toList.zipIdx.all fun (oj, j) => j == i || oj.dst != some t)) &&
    ph.zipIdx.all fun (i', k') => k' == k || i' != i

structure Parted (ops : Array Oper) (ph : List Nat) (k i : Nat) (o : Oper) : Prop where
  guard : o.guard = none
  alone : ∀ t, o.dst = some t → ∀ j oj, ops[j]? = some oj → oj.dst = some t → j = i
  once : ∀ k', ph[k']? = some i → k' = k

theorem parted_of (h : partsB ops ph = true) {k i : Nat} (hk : ph[k]? = some i) : ∃ o, ops[i]? = some o ∧ Parted ops ph k i o := by
  unfold partsB at h
  rw [List.all_eq_true] at h
  have hh := h (i, k) (List.mk_mem_zipIdx_iff_getElem?.2 hk)
  simp only [Bool.and_eq_true, List.all_eq_true, Bool.or_eq_true] at hh
  obtain ⟨h1, h2⟩ := hh
  cases ho : ops[i]? with
  | none => rw [ho] at h1; cases h1
  | some o =>
    rw [ho] at h1
    simp only [Bool.and_eq_true, Option.isNone_iff_eq_none] at h1
    obtain ⟨g1, g2⟩ := h1
    refine ⟨o, rfl, g1, fun t ht j oj hj hd => ?_, fun k' hk' => ?_⟩
    · rw [ht] at g2
      simp only [List.all_eq_true, Bool.or_eq_true, beq_iff_eq, bne_iff_ne, ne_eq] at g2
      rcases g2 (oj, j) (List.mk_mem_zipIdx_iff_getElem?.2 (by simpa using hj)) with e | e
      · exact e
      · exact absurd hd e
    · have := h2 (i, k') (List.mk_mem_zipIdx_iff_getElem?.2 hk')
      simpa using this

structure MidQ (ops : Array Oper) (ph : List Nat) (S : List (Option Value) → World → Prop) (T : Nat → Value → World → Prop) (a0 : Act) (listed : Array Bool) (a : Act) (w : World) : Prop where
  mid : Mid ops T a0 listed a w
  phase : ∃ vals : List (Option Value), vals.length = ph.length ∧ (∀ (k i : Nat), ph[k]? = some i → listed.getD i true = true → ∃ u, vals[k]? = some (some u)) ∧ (∀ (k i : Nat), ph[k]? = some i → listed.getD i true = false → vals[k]? = some none) ∧ QFacts ops ph vals a ∧ S vals w

theorem parts_any {a0 : Act} (hs : settledB ops a0.tmps.size = true) (hp : partsB ops ph = true) (hT : ∀ t v w w', E w w' → T t v w → T t v w')
    (hTp : ∀ i ∈ ph, ∀ o, ops[i]? = some o → (∀ t, o.dst = some t → ∀ u w, T t u w) ∧ (o.dst = none → ∀ u w, T (a0.tmps.size + i) u w))
    (hob : ∀ i o, i ∉ ph → ops[i]? = some o → ∀ vals, Ob P ops (S vals) E T (a0.tmps.size + i) o) (hph : ∀ k i o, ph[k]? = some i → ops[i]? = some o → QhOb P ops ph S E T k o)
    (hfin : ∀ a w vals, a.defers = a0.defers → a.tmps.size = a0.tmps.size → (∀ t, t < a0.tmps.size → T t (a.tmps.getD t undef) w) → (∀ j o, ops[j]? = some o → o.dst = none → T (a0.tmps.size + j) undef w) → vals.length = ph.length → (∀ k : Nat, k < ph.length → ∃ u : Value, vals[k]? = some (some u)) → QFacts ops ph vals a → S vals w → Q .normal a w) :
    ∀ (fuel : Nat) (listed : Array Bool) (a : Act) (w : World), listed.size = ops.size → left ops listed ≤ fuel → MidQ ops ph S T a0 listed a w → wpAny P .any ops Q fuel listed a w := by
  have fin : ∀ (listed : Array Bool) (a : Act) (w : World), Region.ready .any ops listed = [] → MidQ ops ph S T a0 listed a w → Q .normal a w := by
    intro listed a w hr hm
    obtain ⟨vals, hv1, hv2, hv2', hv3, hv4⟩ := hm.phase
    refine hfin a w vals hm.mid.defers hm.mid.size (fun t ht => hm.mid.told t ht fun j o hj _ => all_listed hs hr j (Array.getElem?_eq_some_iff.1 hj).1)
      (fun j o hj hd => hm.mid.done_ j o hj hd (all_listed hs hr j (Array.getElem?_eq_some_iff.1 hj).1)) hv1 (fun k hk => ?_) hv3 hv4
    obtain ⟨o, ho, _⟩ := parted_of hp (List.getElem?_eq_getElem hk)
    exact hv2 k _ (List.getElem?_eq_getElem hk) (all_listed hs hr _ (Array.getElem?_eq_some_iff.1 ho).1)
  intro fuel
  induction fuel with
  | zero =>
    intro listed a w hsz hleft hm
    have hr : Region.ready .any ops listed = [] := by
      refine List.eq_nil_iff_forall_not_mem.2 fun i hi => ?_
      obtain ⟨hu, o, ho, _⟩ := mem_ready.1 hi
      have := left_less (ops := ops) (Array.getElem?_eq_some_iff.1 ho).1 hu
      omega
    exact ⟨hr, fin listed a w hr hm⟩
  | succ fuel ih =>
    intro listed a w hsz hleft hm
    refine ⟨fun hr => fin listed a w hr hm, fun i hi => ?_⟩
    obtain ⟨hu, o, ho, hedges⟩ := mem_ready.1 hi
    have hisz := (Array.getElem?_eq_some_iff.1 ho).1
    have st := settled_of hs ho
    have hleft' := left_less (ops := ops) hisz hu
    obtain ⟨vals, hv1, hv2, hv2', hv3, hv4⟩ := hm.phase
    -- behind the operation, what is foretold
    have next : ∀ u w', dstR T (a0.tmps.size + i) o.dst u w' → E w w' → Mid ops T a0 (listed.setIfInBounds i true) (a.put o.dst u) w' := by
      intro u w' hR hE
      refine ⟨?_, ?_, ?_, ?_⟩
      · cases o.dst <;> exact hm.mid.defers
      · cases o.dst with
        | none => exact hm.mid.size
        | some d => simp [Act.put, hm.mid.size]
      · intro t ht hall
        by_cases hd : o.dst = some t
        · rw [hd, getD_put_self (by rw [hm.mid.size]; exact ht)]
          exact hR.1 t hd
        · have hg : (a.put o.dst u).tmps.getD t undef = a.tmps.getD t undef := by
            cases hdd : o.dst with
            | none => rfl
            | some d => exact getD_put_ne fun e => hd (by rw [hdd, e])
          rw [hg]
          refine hT t _ w w' hE (hm.mid.told t ht fun j oj hj hdj => ?_)
          have hji : j ≠ i := by
            rintro rfl
            rw [ho] at hj
            injection hj with hj
            subst hj
            exact hd hdj
          have := hall j oj hj hdj
          rwa [getD_set_ne true (Ne.symm hji)] at this
      · intro j oj hj hdj hl
        by_cases hji : j = i
        · subst hji
          rw [ho] at hj
          injection hj with hj
          subst hj
          exact hR.2 hdj
        · rw [getD_set_ne true (Ne.symm hji)] at hl
          exact hT _ _ w w' hE (hm.mid.done_ j oj hj hdj hl)
    unfold wpOp
    simp only [ho]
    have hlook : ∀ t ∈ o.looksAt ops, T t (a.tmps.getD t undef) w ∧ a.tmps[t]? = some (a.tmps.getD t undef) := by
      intro t ht
      obtain ⟨hlt, hw⟩ := st.looks t ht
      refine ⟨hm.mid.told t hlt fun j oj hj hd => ?_, ?_⟩
      · obtain ⟨e, he, hb, rfl⟩ := hw j oj hj hd
        have := hedges e he hb
        simp only [Array.getD_eq_getD_getElem?] at this ⊢
        cases hx : listed[e.on]? with
        | some b => rw [hx] at this; simpa using this
        | none => rfl
      · rw [Array.getD_eq_getD_getElem?, Array.getElem?_eq_getElem (by rw [hm.mid.size]; exact hlt)]
        rfl
    by_cases hiph : i ∈ ph
    · obtain ⟨k, hk⟩ := List.getElem?_of_mem hiph
      obtain ⟨o', ho', hph'⟩ := parted_of hp hk
      rw [ho] at ho'
      injection ho' with ho'
      subst ho'
      have hkl := hv2' k i hk hu
      have hwant : Region.wanted o (yielded ops a.tmps) = true := by simp [Region.wanted, hph'.guard]
      rw [if_pos hwant]
      have hl := hph k i o hk ho a w vals hv1 hkl hv4 (fun t ht => (hlook t ht).1) hv3 (fun j i' hj ⟨e, he, hb, hon⟩ => by
        have h1 := hedges e he hb
        refine hv2 j i' hj ?_
        rw [← hon]
        simp only [Array.getD_eq_getD_getElem?] at h1 ⊢
        cases hx : listed[e.on]? with
        | some b => rw [hx] at h1; simpa using h1
        | none => rfl)
      refine .inl (lands_wp hl fun u w' hR _ hE => ?_)
      have hTT := hTp i hiph o ho
      have hkv : k < vals.length := (List.getElem?_eq_some_iff.1 hkl).1
      refine ih _ _ _ (by simpa using hsz) (by omega) ⟨next u w' ⟨fun d hd => hTT.1 d hd _ _, fun hd => hTT.2 hd _ _⟩ hE, vals.set k (some u), by simpa using hv1, ?_, ?_, ?_, hR⟩
      · intro k2 i2 h2 hl2
        by_cases h22 : i2 = i
        · subst h22
          have := hph'.once k2 h2
          subst this
          exact ⟨u, by simp [hkv]⟩
        · rw [getD_set_ne true (Ne.symm h22)] at hl2
          have hne : k2 ≠ k := by rintro rfl; rw [hk] at h2; injection h2 with h2; exact h22 h2.symm
          rw [List.getElem?_set_ne (Ne.symm hne)]
          exact hv2 k2 i2 h2 hl2
      · intro k2 i2 h2 hl2
        by_cases h22 : i2 = i
        · subst h22
          rw [getD_set_self] at hl2
          cases hl2
        · rw [getD_set_ne true (Ne.symm h22)] at hl2
          have hne : k2 ≠ k := by rintro rfl; rw [hk] at h2; injection h2 with h2; exact h22 h2.symm
          rw [List.getElem?_set_ne (Ne.symm hne)]
          exact hv2' k2 i2 h2 hl2
      · intro k2 i2 o2 t2 u2 h2 ho2 hd2 hu2
        by_cases h22 : i2 = i
        · subst h22
          have := hph'.once k2 h2
          subst this
          rw [ho] at ho2
          injection ho2 with ho2
          subst ho2
          rw [hd2, getD_put_self (by rw [hm.mid.size]; exact st.dst _ hd2)]
          simp [hkv] at hu2
          exact hu2.symm
        · have hne : k2 ≠ k := by rintro rfl; rw [hk] at h2; injection h2 with h2; exact h22 h2.symm
          rw [List.getElem?_set_ne (Ne.symm hne)] at hu2
          have hg : (a.put o.dst u).tmps.getD t2 undef = a.tmps.getD t2 undef := by
            cases hdd : o.dst with
            | none => rfl
            | some d =>
              refine getD_put_ne fun e => h22 ?_
              subst e
              exact hph'.alone d hdd i2 o2 ho2 hd2
          rw [hg]
          exact hv3 k2 i2 o2 t2 u2 h2 ho2 hd2 hu2
    · have h := hob i o hiph ho vals a w hv4 hlook
      have goon : ∀ u w', dstR T (a0.tmps.size + i) o.dst u w' → S vals w' → E w w' → wpAny P .any ops Q fuel (listed.setIfInBounds i true) (a.put o.dst u) w' := by
        intro u w' hR hS hE
        refine ih _ _ _ (by simpa using hsz) (by omega) ⟨next u w' hR hE, vals, hv1, ?_, ?_, ?_, hS⟩
        · intro k2 i2 h2 hl2
          have h22 : i2 ≠ i := by rintro rfl; exact hiph (List.mem_of_getElem? h2)
          rw [getD_set_ne true (Ne.symm h22)] at hl2
          exact hv2 k2 i2 h2 hl2
        · intro k2 i2 h2 hl2
          have h22 : i2 ≠ i := by rintro rfl; exact hiph (List.mem_of_getElem? h2)
          rw [getD_set_ne true (Ne.symm h22)] at hl2
          exact hv2' k2 i2 h2 hl2
        · intro k2 i2 o2 t2 u2 h2 ho2 hd2 hu2
          have hg : (a.put o.dst u).tmps.getD t2 undef = a.tmps.getD t2 undef := by
            cases hdd : o.dst with
            | none => rfl
            | some d =>
              refine getD_put_ne fun e => ?_
              subst e
              obtain ⟨o3, ho3, hph3⟩ := parted_of hp h2
              rw [ho2] at ho3
              injection ho3 with ho3
              subst ho3
              have := hph3.alone d hd2 i o ho hdd
              subst this
              exact hiph (List.mem_of_getElem? h2)
          rw [hg]
          exact hv3 k2 i2 o2 t2 u2 h2 ho2 hd2 hu2
      by_cases hwant : Region.wanted o (yielded ops a.tmps) = true
      · rw [if_pos hwant] at h ⊢
        exact .inl (lands_wp h goon)
      · rw [if_neg hwant] at h ⊢
        exact goon undef w h.1 hv4 h.2

/-- The phases' slots that an operation looks at. -/
def QSlots (vals : List (Option Value)) (a : Act) : List (Nat × Tmp) → Prop
  | [] => True
  | (k, t) :: r => vals[k]? = some (some (a.tmps.getD t undef)) ∧ QSlots vals a r
/-- The phases that are done. -/
def QDone (vals : List (Option Value)) : List Nat → Prop
  | [] => True
  | k :: r => (∃ u, vals[k]? = some (some u)) ∧ QDone vals r

/-- One operation's share by the table; of a phase: which of its slots it looks at, which phases it waits for. -/
inductive QSpec where
  | op (l : List Tmp) (g : Option (Tmp × Bool))
  | phase (k : Nat) (l : List Tmp) (s : List (Nat × Tmp)) (q : List Nat)

def ObsQ (P : Program) (len : Nat) (S : List (Option Value) → World → Prop) (E : World → World → Prop) (T : Nat → Value → World → Prop) : Nat → List Oper → List QSpec → Prop
  | v, o :: r, .op l g :: k => (∀ vals, ObT P (S vals) E T l g v o) ∧ ObsQ P len S E T (v + 1) r k
  | v, o :: r, .phase n l s q :: k => (∀ (a : Act) (w : World) (vals : List (Option Value)), vals.length = len → vals[n]? = some none → S vals w → Facts T a w l → QSlots vals a s → QDone vals q →
      Lands P (fun _ => True) E (fun u w' => S (vals.set n (some u)) w') w ((execOp a.eval o).run P w)) ∧ ObsQ P len S E T (v + 1) r k
  | _, _, _ => True

/-- The table is the region's. -/
def qspecsB (ops : Array Oper) (ph : List Nat) : Nat → List Oper → List QSpec → Bool
  | _, [], [] => true
  | i, o :: r, .op l g :: k => !ph.contains i && looksB ops [o] [(l, g)] && qspecsB ops ph (i + 1) r k
  | i, o :: r, .phase n l s q :: k => ph[n]? == some i && (l.all fun t => (o.looksAt ops).contains t) &&
      (s.all fun (j, t) => (o.looksAt ops).contains t && match ph[j]? with
        | none => false
        | some i' => (ops[i']?).bind (·.dst) == some t && o.after.toList.any fun e => Region.binds .any e && e.on == i') &&
      (q.all fun j => match ph[j]? with
        | none => false
        | some i' => o.after.toList.any fun e => Region.binds .any e && e.on == i') && qspecsB ops ph (i + 1) r k
  | _, _, _ => false

theorem qspecs_at {len : Nat} : ∀ {l : List Oper} {k : List QSpec} {v i : Nat}, qspecsB ops ph i l k = true → ObsQ P len S E T v l k → ∀ j o, l[j]? = some o →
    (∃ lk g, i + j ∉ ph ∧ looksB ops [o] [(lk, g)] = true ∧ ∀ vals, ObT P (S vals) E T lk g (v + j) o) ∨
    (∃ n lk s q, ph[n]? = some (i + j) ∧ (∀ t ∈ lk, t ∈ o.looksAt ops) ∧ (∀ x ∈ s, ∃ i' oi, ph[x.1]? = some i' ∧ ops[i']? = some oi ∧ oi.dst = some x.2 ∧ ∃ e ∈ o.after, Region.binds .any e = true ∧ e.on = i') ∧
      (∀ x ∈ q, ∃ i', ph[x]? = some i' ∧ ∃ e ∈ o.after, Region.binds .any e = true ∧ e.on = i') ∧
      ∀ (a : Act) (w : World) (vals : List (Option Value)), vals.length = len → vals[n]? = some none → S vals w → Facts T a w lk → QSlots vals a s → QDone vals q → Lands P (fun _ => True) E (fun u w' => S (vals.set n (some u)) w') w ((execOp a.eval o).run P w))
  | [], _, _, _, _, _, j, _, hj => by simp at hj
  | _ :: _, [], _, _, h, _, _, _, _ => by simp [qspecsB] at h
  | x :: r, .op l g :: k, v, i, h, hb, j, o, hj => by
    simp only [qspecsB, Bool.and_eq_true, Bool.not_eq_true'] at h
    cases j with
    | zero =>
      simp at hj; subst hj
      refine .inl ⟨l, g, ?_, h.1.2, hb.1⟩
      intro hm
      have := List.contains_iff_mem.2 hm
      rw [Nat.add_zero, h.1.1] at this
      cases this
    | succ j =>
      have := qspecs_at h.2 hb.2 j o (by simpa using hj)
      rwa [show i + 1 + j = i + (j + 1) by omega, show v + 1 + j = v + (j + 1) by omega] at this
  | x :: r, .phase n l s q :: k, v, i, h, hb, j, o, hj => by
    simp only [qspecsB, Bool.and_eq_true, beq_iff_eq, List.all_eq_true, List.contains_iff_mem] at h
    cases j with
    | zero =>
      simp at hj; subst hj
      refine .inr ⟨n, l, s, q, h.1.1.1.1, h.1.1.1.2, fun y hy => ?_, fun y hy => ?_, hb.1⟩
      · have h2 := (h.1.1.2 y hy).2
        cases h3 : ph[y.1]? with
        | none => rw [h3] at h2; cases h2
        | some i' =>
          rw [h3] at h2
          simp only [Bool.and_eq_true, beq_iff_eq, Option.bind_eq_some_iff, List.any_eq_true, Array.mem_toList_iff] at h2
          obtain ⟨⟨oi, h4, h5⟩, e, h6, h7, h8⟩ := h2
          exact ⟨i', oi, rfl, h4, h5, e, h6, h7, h8⟩
      · have h2 := h.1.2 y hy
        cases h3 : ph[y]? with
        | none => rw [h3] at h2; cases h2
        | some i' =>
          rw [h3] at h2
          simp only [List.any_eq_true, Array.mem_toList_iff, Bool.and_eq_true, beq_iff_eq] at h2
          obtain ⟨e, h6, h7, h8⟩ := h2
          exact ⟨i', rfl, e, h6, h7, h8⟩
    | succ j =>
      have := qspecs_at h.2 hb.2 j o (by simpa using hj)
      rwa [show i + 1 + j = i + (j + 1) by omega, show v + 1 + j = v + (j + 1) by omega] at this

/-- A region that draws its order, with phases in a part of an order, by tables. -/
theorem wp_region_parts {id : Nat} {a0 : Act} {w0 : World} (ph : List Nat) (l0 l1 : List (Nat × (Value → World → Prop))) (k : List QSpec)
    (hm : P.follows .mixedOrders = true) (hs : settledB ops a0.tmps.size = true) (hp : partsB ops ph = true) (hk : qspecsB ops ph 0 ops.toList k = true)
    (hq : quietB ops ph a0.tmps.size ((l0 ++ l1).map (·.1)) = true)
    (hw : (l1.all fun p => decide (a0.tmps.size ≤ p.1) || ops.toList.any fun o => o.dst == some p.1) = true) (hst : StableAll E (l0 ++ l1)) (hst0 : StartAll a0 w0.drew l0) (hS : S (ph.map fun _ => none) w0.drew)
    (hob : ObsQ P ph.length S E (tab (l0 ++ l1)) a0.tmps.size ops.toList k)
    (hfin : ∀ a w vals, a.defers = a0.defers → a.tmps.size = a0.tmps.size → (∀ t, t < a0.tmps.size → tab (l0 ++ l1) t (a.tmps.getD t undef) w) → (∀ j o, ops[j]? = some o → o.dst = none → tab (l0 ++ l1) (a0.tmps.size + j) undef w) →
      vals.length = ph.length → (∀ k : Nat, k < ph.length → ∃ u : Value, vals[k]? = some (some u)) → QFacts ops ph vals a → S vals w → Q .normal a w) :
    (Code.region id ops true).wp P Q a0 w0 := by
  have hall := qspecs_at hk hob
  refine wp_region_any hm (parts_any (S := S) (T := tab (l0 ++ l1)) hs hp (stable_tab hst) ?_ ?_ ?_ hfin ops.size _ a0 _ (by simp) ?_ ⟨⟨rfl, rfl, fun t ht hfree => ?_, fun j o hj _ hl => ?_⟩, ph.map fun _ => none, by simp, ?_, ?_, ?_, hS⟩)
  · intro i hi o ho
    unfold quietB at hq
    rw [List.all_eq_true] at hq
    have := hq i hi
    rw [ho] at this
    refine ⟨fun t ht u w => ?_, fun hd u w => ?_⟩
    · simp only [ht] at this
      exact tab_free (by simpa using this) u w
    · simp only [hd] at this
      exact tab_free (by simpa using this) u w
  · intro i o hi ho vals
    rcases hall i o (by simpa using ho) with ⟨lk, g, h1, h2, h3⟩ | ⟨n, lk, s, q, h1, _⟩
    · have := obs_of (P := P) (S := S vals) (E := E) (T := tab (l0 ++ l1)) (v := a0.tmps.size + i) h2 ⟨h3 vals, trivial⟩
      exact this.1
    · rw [Nat.zero_add] at h1
      exact absurd (List.mem_of_getElem? h1) hi
  · intro n i o hi ho a w vals hv hnone hSv hl hpf hdone
    rcases hall i o (by simpa using ho) with ⟨lk, g, h1, h2, h3⟩ | ⟨n', lk, s, q, h1, h2, h3, h3q, h4⟩
    · rw [Nat.zero_add] at h1
      exact absurd (List.mem_of_getElem? hi) h1
    · rw [Nat.zero_add] at h1
      obtain ⟨o', _, hph'⟩ := parted_of hp hi
      have := hph'.once n' h1
      subst this
      refine h4 a w vals hv hnone hSv (facts_of fun t ht => hl t (h2 t ht)) ?_ ?_
      · have : ∀ s' : List (Nat × Tmp), (∀ x ∈ s', x ∈ s) → QSlots vals a s' := by
          intro s'
          induction s' with
          | nil => intro _; trivial
          | cons x r ih =>
            intro hx
            obtain ⟨i', oi, q1, q2, q3, e, q4, q5, q6⟩ := h3 x (hx x (List.mem_cons_self ..))
            obtain ⟨u, hu⟩ := hdone x.1 i' q1 ⟨e, q4, q5, q6⟩
            refine ⟨?_, ih fun y hy => hx y (List.mem_cons_of_mem _ hy)⟩
            rw [hu, ← hpf x.1 i' oi x.2 u q1 q2 q3 hu]
        exact this s fun _ h => h
      · have : ∀ q' : List Nat, (∀ x ∈ q', x ∈ q) → QDone vals q' := by
          intro q'
          induction q' with
          | nil => intro _; trivial
          | cons x r ih =>
            intro hx
            obtain ⟨i', q1, e, q4, q5, q6⟩ := h3q x (hx x (List.mem_cons_self ..))
            exact ⟨hdone x i' q1 ⟨e, q4, q5, q6⟩, ih fun y hy => hx y (List.mem_cons_of_mem _ hy)⟩
        exact this q fun _ h => h
  · refine Nat.le_trans (List.length_filter_le _ _) ?_
    simp
  · unfold tab
    cases hf : (l0 ++ l1).find? (fun p => p.1 == t) with
    | none => trivial
    | some p =>
      have hpt : p.1 = t := by simpa using List.find?_some hf
      rcases List.mem_append.1 (List.mem_of_find?_eq_some hf) with h | h
      · have := start_mem hst0 p h
        rw [hpt] at this
        exact this
      · exfalso
        rw [List.all_eq_true] at hw
        have := hw p h
        simp only [Bool.or_eq_true, decide_eq_true_eq, List.any_eq_true, beq_iff_eq, Array.mem_toList_iff] at this
        rcases this with hge | ⟨o, ho, hd⟩
        · omega
        · obtain ⟨j, hj⟩ := Array.getElem?_of_mem ho
          have := hfree j o hj (by rw [hd, hpt])
          have hlt := (Array.getElem?_eq_some_iff.1 hj).1
          simp [Array.getD_eq_getD_getElem?, hlt] at this
  · have hlt := (Array.getElem?_eq_some_iff.1 hj).1
    simp [Array.getD_eq_getD_getElem?, hlt] at hl
  · intro k2 i2 h2 hl
    obtain ⟨o, ho, _⟩ := parted_of hp h2
    have hlt := (Array.getElem?_eq_some_iff.1 ho).1
    simp [Array.getD_eq_getD_getElem?, hlt] at hl
  · intro k2 i2 h2 _
    simp [h2]
  · intro k2 i2 o2 t2 u2 h2 _ _ hu
    simp [h2] at hu
end
end Go.Proofs.YtkjiokepihmpfaaDoor
