/- A region whose last operation stands behind all others: these in any order, then that one. No condition. -/
import Derived.Test.YtkjiokepihmpfaaDoorPart
set_option linter.unusedVariables false
set_option linter.unusedSimpArgs false
namespace Go.Proofs.YtkjiokepihmpfaaDoor
open Go.RowKit

section
variable {P : Program} {Q Q' : Exit → Act → World → Prop} {ops : Array Oper}
theorem letsOut_mono (h : ∀ e a w, e ≠ .normal → Q e a w → Q' e a w) (hl : LetsOut Q) : LetsOut Q' := by
  obtain ⟨a, w, hq⟩ := hl
  exact ⟨a, w, h _ _ _ (by simp) hq⟩
theorem wp_monoQ {o : Oper} {a : Act} {w : World} {K K' : Act → World → Prop} (hK : ∀ a w, K a w → K' a w) (h : ∀ e a w, e ≠ .normal → Q e a w → Q' e a w) (hh : o.wp P a w K Q) : o.wp P a w K' Q' := by
  unfold Oper.wp at *
  generalize (execOp a.eval o).run P w = r at *
  cases r with
  | ok n w' =>
    cases n <;> simp only [Oper.upon] at hh ⊢ <;>
      first
        | exact hK _ _ hh
        | exact Calls.mono hh (fun e w'' he => by cases e <;> first | exact hK _ _ he | exact h _ _ _ (by simp) he | exact letsOut_mono h he)
        | exact Rows.mono hh (fun _ _ he => hK _ _ he)
  | halt x w' => cases x <;> simp only [Oper.upon] at hh ⊢ <;> first | exact h _ _ _ (by simp) hh | exact hh
/-- What is told where all but the last one are done. -/
def lastQ (P : Program) (m : Oper) (Q : Exit → Act → World → Prop) : Exit → Act → World → Prop
  | .normal, a, w => m.wp P a w (fun a' w' => Q .normal a' w') Q
  | e, a, w => Q e a w
theorem lastQ_other {m : Oper} : ∀ e a w, e ≠ .normal → lastQ P m Q e a w → Q e a w := by
  intro e a w he h
  cases e with
  | normal => exact absurd rfl he
  | _ => exact h
def onB (o : Oper) (j : Nat) : Bool := o.after.toList.any fun e => Region.binds .any e && e.on == j
/-- Each one but the last is waited for by a later one; none is guarded; each waits for earlier ones. -/
def lastB (l : List Oper) (n : Nat) : Bool :=
  decide (l.length = n + 1) && (l.all fun o => o.guard.isNone) && (l.zipIdx.all fun (o, i) => o.after.toList.all fun e => !Region.binds .any e || decide (e.on < i)) &&
    (List.range n).all fun j => (l.zipIdx).any fun (o, i) => decide (j < i) && onB o j
structure LastOk (l : List Oper) (n : Nat) : Prop where
  len : l.length = n + 1
  guard : ∀ (i : Nat) (o : Oper), l[i]? = some o → o.guard = none
  early : ∀ (i : Nat) (o : Oper), l[i]? = some o → ∀ e ∈ o.after, Region.binds .any e = true → e.on < i
  wait : ∀ j, j < n → ∃ (i : Nat) (o : Oper), l[i]? = some o ∧ j < i ∧ ∃ e ∈ o.after, Region.binds .any e = true ∧ e.on = j
theorem lastOk {l : List Oper} {n : Nat} (h : lastB l n = true) : LastOk l n := by
  unfold lastB at h
  simp only [Bool.and_eq_true, decide_eq_true_eq, List.all_eq_true] at h
  obtain ⟨⟨⟨h1, h2⟩, h3⟩, h4⟩ := h
  refine ⟨h1, fun i o ho => ?_, fun i o ho e he hb => ?_, fun j hj => ?_⟩
  · simpa using h2 o (List.mem_of_getElem? ho)
  · have := h3 (o, i) (List.mk_mem_zipIdx_iff_getElem?.2 ho)
    simp only [List.all_eq_true, Bool.or_eq_true, decide_eq_true_eq, Bool.not_eq_true'] at this
    rcases this e (by simpa using he) with h | h
    · rw [hb] at h; cases h
    · exact h
  · have := h4 j (List.mem_range.2 hj)
    rw [List.any_eq_true] at this
    obtain ⟨⟨o, i⟩, hm, hx⟩ := this
    simp only [Bool.and_eq_true, decide_eq_true_eq, onB, List.any_eq_true, beq_iff_eq] at hx
    obtain ⟨hji, e, he, hb, hon⟩ := hx
    exact ⟨i, o, List.mk_mem_zipIdx_iff_getElem?.1 hm, hji, e, by simpa using he, hb, hon⟩
/-- What is listed has all listed that it waits for. -/
def Closed (l : List Oper) (listed : Nat → Bool) : Prop := ∀ (i : Nat) (o : Oper), l[i]? = some o → listed i = true → ∀ e ∈ o.after, Region.binds .any e = true → listed e.on = true
theorem all_behind {l : List Oper} {n : Nat} (H : LastOk l n) {listed : Nat → Bool} (hc : Closed l listed) (hn : ∀ o, l[n]? = some o → ∀ e ∈ o.after, Region.binds .any e = true → listed e.on = true) : ∀ d j, j + d = n → j < n → listed j = true := by
  intro d
  induction d using Nat.strongRecOn with
  | _ d ih =>
    intro j hd hj
    obtain ⟨i, o, ho, hji, e, he, hb, hon⟩ := H.wait j hj
    have hi : i < n + 1 := by rw [← H.len]; exact (List.getElem?_eq_some_iff.1 ho).1
    by_cases hin : i = n
    · subst hin
      rw [← hon]
      exact hn o ho e he hb
    · have := ih (n - i) (by omega) i (by omega) (by omega)
      rw [← hon]
      exact hc i o ho this e he hb
theorem getD_lt {listed : Array Bool} {i : Nat} (h : i < listed.size) (d d' : Bool) : listed.getD i d = listed.getD i d' := by
  simp [Array.getD, h]
theorem all_of_none {l : List Oper} {n : Nat} (H : LastOk l n) {listed : Array Bool} (hs : listed.size = n + 1) (hr : Region.ready .any (l.take n).toArray (listed.extract 0 n) = []) : ∀ j, j < n → listed.getD j false = true := by
  intro j
  induction j using Nat.strongRecOn with
  | _ j ih =>
    intro hj
    cases hl : listed.getD j false with
    | true => rfl
    | false =>
      exfalso
      have hlj : j < l.length := by rw [H.len]; omega
      have hm : j ∈ Region.ready .any (l.take n).toArray (listed.extract 0 n) := by
        refine mem_ready.2 ⟨?_, l[j], ?_, fun e he hb => ?_⟩
        · rw [getD_lt (by simp; omega) true false]
          rw [Array.getD_eq_getD_getElem?] at hl ⊢
          rw [Array.getElem?_extract, if_pos (show j < min n listed.size - 0 by omega), Nat.zero_add]
          exact hl
        · simp [List.getElem?_take, hj]
        · have h := H.early j _ (List.getElem?_eq_getElem hlj) e he hb
          have h1 := ih e.on h (by omega)
          rw [Array.getD_eq_getD_getElem?] at h1 ⊢
          rw [Array.getElem?_extract, if_pos (show e.on < min n listed.size - 0 by omega), Nat.zero_add]
          exact h1
      rw [hr] at hm
      cases hm
theorem ready_none {ops : Array Oper} {listed : Array Bool} (h : ∀ j, j < ops.size → listed.getD j true = true) : Region.ready .any ops listed = [] := by
  refine List.eq_nil_iff_forall_not_mem.2 fun i hi => ?_
  obtain ⟨hu, o, ho, _⟩ := mem_ready.1 hi
  rw [h i (Array.getElem?_eq_some_iff.1 ho).1] at hu
  cases hu
theorem ext_set {listed : Array Bool} {i n : Nat} (hs : listed.size = n + 1) (hi : i < n) : (listed.setIfInBounds i true).extract 0 n = (listed.extract 0 n).setIfInBounds i true := by
  apply Array.ext_getElem?
  intro j
  rw [Array.getElem?_extract, Array.getElem?_setIfInBounds, Array.getElem?_setIfInBounds, Array.getElem?_extract]
  simp only [Array.size_setIfInBounds, Array.size_extract, Nat.zero_add]
  by_cases h : j < n
  · rw [if_pos (show j < min n listed.size - 0 by omega), if_pos (show j < min n listed.size - 0 by omega)]
    by_cases e : i = j
    · rw [if_pos e, if_pos e, if_pos (by omega), if_pos (by omega)]
    · rw [if_neg e, if_neg e]
  · rw [if_neg (show ¬j < min n listed.size - 0 by omega), if_neg (show ¬j < min n listed.size - 0 by omega), if_neg (show ¬i = j by omega)]
theorem ext_get {listed : Array Bool} {i n : Nat} {d : Bool} (hs : listed.size = n + 1) (hi : i < n) : (listed.extract 0 n).getD i d = listed.getD i d := by
  rw [Array.getD_eq_getD_getElem?, Array.getD_eq_getD_getElem?, Array.getElem?_extract, if_pos (show i < min n listed.size - 0 by omega), Nat.zero_add]
theorem wpAny_last {l : List Oper} {n : Nat} {m : Oper} (H : LastOk l n) (hmn : l[n]? = some m) : ∀ (fuel : Nat) (listed : Array Bool) (a : Act) (w : World), listed.size = n + 1 → listed.getD n true = false → Closed l (fun j => listed.getD j false) →
    wpAny P .any (l.take n).toArray (lastQ P m Q) fuel (listed.extract 0 n) a w → wpAny P .any l.toArray Q (fuel + 1) listed a w := by
  have hmg := H.guard n m hmn
  -- the last one's turn
  have fin : ∀ (fuel : Nat) (listed : Array Bool) (a : Act) (w : World), listed.size = n + 1 → (∀ j, j < n → listed.getD j false = true) → m.wp P a w (fun a' w' => Q .normal a' w') Q → wpOp P l.toArray Q n (wpAny P .any l.toArray Q fuel (listed.setIfInBounds n true)) a w := by
    intro fuel listed a w hs hall hw
    unfold wpOp
    simp only [List.getElem?_toArray, hmn]
    rw [if_pos (by simp [Region.wanted, hmg])]
    refine .inl (Oper.wp_mono (fun a' w' hq => ?_) hw)
    have hr : Region.ready .any l.toArray (listed.setIfInBounds n true) = [] := ready_none fun j hj => by
      rw [List.size_toArray, H.len] at hj
      by_cases e : j = n
      · subst e
        simp [Array.getD_eq_getD_getElem?, Array.getElem?_setIfInBounds, hs]
      · rw [getD_set_ne true (Ne.symm e), getD_lt (by omega) true false]
        exact hall j (by omega)
    cases fuel with
    | zero => exact ⟨hr, hq⟩
    | succ f => exact ⟨fun _ => hq, fun i hi => by rw [hr] at hi; cases hi⟩
  have nready : ∀ (listed : Array Bool), listed.size = n + 1 → listed.getD n true = false → (∀ j, j < n → listed.getD j false = true) → n ∈ Region.ready .any l.toArray listed := fun listed hs hl hall =>
    mem_ready.2 ⟨hl, m, by simpa using hmn, fun e he hb => hall _ (H.early n m hmn e he hb)⟩
  have below : ∀ (listed : Array Bool) (i : Nat), listed.size = n + 1 → i < n → i ∈ Region.ready .any l.toArray listed → i ∈ Region.ready .any (l.take n).toArray (listed.extract 0 n) := by
    intro listed i hs hi hr
    obtain ⟨hu, o, ho, hed⟩ := mem_ready.1 hr
    refine mem_ready.2 ⟨by rw [ext_get hs hi]; exact hu, o, by simpa [List.getElem?_take, hi] using ho, fun e he hb => ?_⟩
    have := H.early i o (by simpa using ho) e he hb
    rw [ext_get hs (by omega)]
    exact hed e he hb
  have above : ∀ (listed : Array Bool) (i : Nat), listed.size = n + 1 → i ∈ Region.ready .any (l.take n).toArray (listed.extract 0 n) → i ∈ Region.ready .any l.toArray listed := by
    intro listed i hs hr
    obtain ⟨hu, o, ho, hed⟩ := mem_ready.1 hr
    have hi : i < n := by
      have := (Array.getElem?_eq_some_iff.1 ho).1
      simp at this
      omega
    have ho' : l[i]? = some o := by simpa [List.getElem?_take, hi] using ho
    refine mem_ready.2 ⟨by rw [ext_get hs hi] at hu; exact hu, o, by simpa using ho', fun e he hb => ?_⟩
    have := H.early i o ho' e he hb
    have h2 := hed e he hb
    rwa [ext_get hs (by omega)] at h2
  have allN : ∀ (listed : Array Bool), listed.size = n + 1 → Closed l (fun j => listed.getD j false) → n ∈ Region.ready .any l.toArray listed → ∀ j, j < n → listed.getD j false = true := by
    intro listed hs hc hr j hj
    obtain ⟨_, o, ho, hed⟩ := mem_ready.1 hr
    have ho' : l[n]? = some o := by simpa using ho
    exact all_behind H hc (fun o2 ho2 e he hb => by
      rw [ho'] at ho2
      injection ho2 with ho2
      subst ho2
      exact hed e he hb) (n - j) j (by omega) hj
  have lt : ∀ (listed : Array Bool) (i : Nat), i ∈ Region.ready .any l.toArray listed → i < n + 1 := by
    intro listed i hr
    obtain ⟨_, o, ho, _⟩ := mem_ready.1 hr
    have := (Array.getElem?_eq_some_iff.1 ho).1
    rwa [List.size_toArray, H.len] at this
  have emp : ∀ (listed : Array Bool), listed.size = n + 1 → listed.getD n true = false → Region.ready .any l.toArray listed ≠ [] := by
    intro listed hs hl hr
    have h1 : Region.ready .any (l.take n).toArray (listed.extract 0 n) = [] := List.eq_nil_iff_forall_not_mem.2 fun i hi => by
      have := above listed i hs hi
      rw [hr] at this
      cases this
    have := nready listed hs hl (all_of_none H hs h1)
    rw [hr] at this
    cases this
  intro fuel
  induction fuel with
  | zero =>
    intro listed a w hs hl hc h
    obtain ⟨h1, h2⟩ := h
    have hall := all_of_none H hs h1
    refine ⟨fun hr => absurd hr (emp listed hs hl), fun i hi => ?_⟩
    have := lt listed i hi
    rcases Nat.lt_or_ge i n with hlt | hge
    · obtain ⟨hu, _⟩ := mem_ready.1 hi
      rw [getD_lt (by omega) true false, hall i hlt] at hu
      cases hu
    · obtain rfl : i = n := by omega
      exact fin 0 listed a w hs hall h2
  | succ fuel ih =>
    intro listed a w hs hl hc h
    obtain ⟨h1, h2⟩ := h
    refine ⟨fun hr => absurd hr (emp listed hs hl), fun i hi => ?_⟩
    have := lt listed i hi
    rcases Nat.lt_or_ge i n with hlt | hge
    · have hh := h2 i (below listed i hs hlt hi)
      obtain ⟨hu, o, ho, hed⟩ := mem_ready.1 hi
      have ho' : l[i]? = some o := by simpa using ho
      have ho2 : (l.take n).toArray[i]? = some o := by simpa [List.getElem?_take, hlt] using ho'
      have hg := H.guard i o ho'
      unfold wpOp at hh ⊢
      simp only [ho2] at hh
      simp only [ho]
      rw [if_pos (by simp [Region.wanted, hg])] at hh ⊢
      have next : ∀ a' w', wpAny P .any (l.take n).toArray (lastQ P m Q) fuel ((listed.extract 0 n).setIfInBounds i true) a' w' → wpAny P .any l.toArray Q (fuel + 1) (listed.setIfInBounds i true) a' w' := by
        intro a' w' hq
        refine ih _ _ _ (by simpa using hs) ?_ ?_ (by rw [ext_set hs hlt]; exact hq)
        · rw [getD_set_ne true (by omega)]
          exact hl
        · intro j oj hj hlj e he hb
          have hedge : listed.getD e.on false = true := by
            by_cases e1 : j = i
            · subst e1
              rw [ho'] at hj
              injection hj with hj
              subst hj
              exact hed e he hb
            · exact hc j oj hj (show listed.getD j false = true by rw [← getD_set_ne false (Ne.symm e1)]; exact hlj) e he hb
          by_cases e2 : e.on = i
          · show (listed.setIfInBounds i true).getD e.on false = true
            rw [e2]
            simp [Array.getD_eq_getD_getElem?, Array.getElem?_setIfInBounds, show i < listed.size by omega]
          · show (listed.setIfInBounds i true).getD e.on false = true
            rw [getD_set_ne false (Ne.symm e2)]
            exact hedge
      rcases hh with hh | ⟨hh, hlo⟩
      · exact .inl (wp_monoQ next lastQ_other hh)
      · exact .inr ⟨hh, letsOut_mono lastQ_other hlo⟩
    · obtain rfl : i = n := by omega
      have hall := allN listed hs hc hi
      refine fin (fuel + 1) listed a w hs hall (h1 ?_)
      refine ready_none fun j hj => ?_
      have hj : j < i := by simp at hj; omega
      rw [ext_get hs hj, getD_lt (by omega) true false]
      exact hall j hj
theorem wp_region_last {id : Nat} {l : List Oper} {a0 : Act} {w0 : World} (n : Nat) (m : Oper) (hmn : l[n]? = some m) (hb : lastB l n = true) (hm : P.follows .mixedOrders = true)
    (h : wpAny P .any (l.take n).toArray (lastQ P m Q) (l.take n).toArray.size (Array.replicate (l.take n).toArray.size false) a0 w0.drew) : (Code.region id l.toArray true).wp P Q a0 w0 := by
  have H := lastOk hb
  have hz : (l.take n).toArray.size = n := by simp [H.len]
  refine wp_region_any hm ?_
  rw [List.size_toArray, H.len]
  rw [hz] at h
  refine wpAny_last H hmn n _ a0 _ (by simp) (by simp [Array.getD_eq_getD_getElem?]) (fun i o _ hl => ?_) ?_
  · exfalso
    revert hl
    simp only [Array.getD_eq_getD_getElem?, Array.getElem?_replicate]
    split <;> simp
  · have : (Array.replicate (n + 1) false).extract 0 n = Array.replicate n false := by
      apply Array.ext_getElem?
      intro j
      rw [Array.getElem?_extract, Array.getElem?_replicate, Array.getElem?_replicate, Array.size_replicate, Nat.zero_add]
      by_cases h : j < n
      · rw [if_pos (by omega), if_pos (by omega), if_pos h]
      · rw [if_neg (by omega), if_neg h]
    rw [this]
    exact h
end
section
variable {P : Program} {ops : Array Oper} {ph : List Nat} {Q : Exit → Act → World → Prop} {S : List Value → World → Prop} {E : World → World → Prop} {T : Nat → Value → World → Prop}
theorem wpAny_phases {a0 : Act} {w0 : World} (ph : List Nat) (l0 l1 : List (Nat × (Value → World → Prop))) (k : List Spec)
    (hs : settledB ops a0.tmps.size = true) (hp : phasesB ops ph = true) (hk : specsB ops ph 0 ops.toList k = true)
    (hq : quietB ops ph a0.tmps.size ((l0 ++ l1).map (·.1)) = true)
    (hw : (l1.all fun p => decide (a0.tmps.size ≤ p.1) || ops.toList.any fun o => o.dst == some p.1) = true) (hst : StableAll E (l0 ++ l1)) (hst0 : StartAll a0 w0.drew l0) (hS : S [] w0.drew)
    (hob : ObsP P S E (tab (l0 ++ l1)) a0.tmps.size ops.toList k)
    (hfin : ∀ a w vals, a.defers = a0.defers → a.tmps.size = a0.tmps.size → (∀ t, t < a0.tmps.size → tab (l0 ++ l1) t (a.tmps.getD t undef) w) → (∀ j o, ops[j]? = some o → o.dst = none → tab (l0 ++ l1) (a0.tmps.size + j) undef w) →
      vals.length = ph.length → PFacts ops ph vals a → S vals w → Q .normal a w) :
    wpAny P .any ops Q ops.size (Array.replicate ops.size false) a0 w0.drew := by
  have hall := specs_at hk hob
  refine (phases_any (S := S) (T := tab (l0 ++ l1)) hs hp (stable_tab hst) ?_ ?_ ?_ hfin ops.size _ a0 _ (by simp) ?_ ⟨⟨rfl, rfl, fun t ht hfree => ?_, fun j o hj _ hl => ?_⟩, [], by simp, ?_, ?_, hS⟩)
  · intro i hi o ho
    unfold quietB at hq
    rw [List.all_eq_true] at hq
    have := hq i hi
    rw [ho] at this
    refine ⟨fun t ht u w => ?_, fun hd u w => ?_⟩
    · simp only [ht] at this
      exact tab_free (by simpa using this) u w
    · simp only [hd] at this
      exact tab_free (by simpa using this) u w
  · intro i o hi ho vals
    rcases hall i o (by simpa using ho) with ⟨lk, g, h1, h2, h3⟩ | ⟨n, lk, s, h1, _⟩
    · have := obs_of (P := P) (S := S vals) (E := E) (T := tab (l0 ++ l1)) (v := a0.tmps.size + i) h2 ⟨h3 vals, trivial⟩
      exact this.1
    · rw [Nat.zero_add] at h1
      exact absurd (List.mem_of_getElem? h1) hi
  · intro n i o hi ho a w vals hv hSv hl hpf
    rcases hall i o (by simpa using ho) with ⟨lk, g, h1, h2, h3⟩ | ⟨n', lk, s, h1, h2, h3, h4⟩
    · rw [Nat.zero_add] at h1
      exact absurd (List.mem_of_getElem? hi) h1
    · rw [Nat.zero_add] at h1
      obtain ⟨o', _, hph'⟩ := phased_of hp hi
      have := hph'.once n' h1
      subst this
      refine h4 a w vals hv hSv (facts_of fun t ht => hl t (h2 t ht)) ?_
      have : ∀ s' : List (Nat × Tmp), (∀ x ∈ s', x ∈ s) → PSlots vals a s' := by
        intro s'
        induction s' with
        | nil => intro _; trivial
        | cons x r ih =>
          intro hx
          obtain ⟨i', oi, q1, q2, q3⟩ := h3 x (hx x (List.mem_cons_self ..))
          exact ⟨fun hlt => hpf x.1 i' oi x.2 q1 hlt q2 q3, ih fun y hy => hx y (List.mem_cons_of_mem _ hy)⟩
      exact this s fun _ h => h
  · refine Nat.le_trans (List.length_filter_le _ _) ?_
    simp
  · unfold tab
    cases hf : (l0 ++ l1).find? (fun p => p.1 == t) with
    | none => trivial
    | some p =>
      have hpt : p.1 = t := by simpa using List.find?_some hf
      rcases List.mem_append.1 (List.mem_of_find?_eq_some hf) with h | h
      · have := start_mem hst0 p h
        rw [hpt] at this
        exact this
      · exfalso
        rw [List.all_eq_true] at hw
        have := hw p h
        simp only [Bool.or_eq_true, decide_eq_true_eq, List.any_eq_true, beq_iff_eq, Array.mem_toList_iff] at this
        rcases this with hge | ⟨o, ho, hd⟩
        · omega
        · obtain ⟨j, hj⟩ := Array.getElem?_of_mem ho
          have := hfree j o hj (by rw [hd, hpt])
          have hlt := (Array.getElem?_eq_some_iff.1 hj).1
          simp [Array.getD_eq_getD_getElem?, hlt] at this
  · have hlt := (Array.getElem?_eq_some_iff.1 hj).1
    simp [Array.getD_eq_getD_getElem?, hlt] at hl
  · intro k2 i2 h2
    obtain ⟨o, ho, _⟩ := phased_of hp h2
    have hlt := (Array.getElem?_eq_some_iff.1 ho).1
    simp [Array.getD_eq_getD_getElem?, hlt]
  · intro k2 i2 o2 t2 _ hlt
    simp at hlt
end
section
variable {P : Program} {ops : Array Oper} {ph : List Nat} {Q : Exit → Act → World → Prop} {S : List (Option Value) → World → Prop} {E : World → World → Prop} {T : Nat → Value → World → Prop}
theorem wpAny_parts {a0 : Act} {w0 : World} (ph : List Nat) (l0 l1 : List (Nat × (Value → World → Prop))) (k : List QSpec)
    (hs : settledB ops a0.tmps.size = true) (hp : partsB ops ph = true) (hk : qspecsB ops ph 0 ops.toList k = true)
    (hq : quietB ops ph a0.tmps.size ((l0 ++ l1).map (·.1)) = true)
    (hw : (l1.all fun p => decide (a0.tmps.size ≤ p.1) || ops.toList.any fun o => o.dst == some p.1) = true) (hst : StableAll E (l0 ++ l1)) (hst0 : StartAll a0 w0.drew l0) (hS : S (ph.map fun _ => none) w0.drew)
    (hob : ObsQ P ph.length S E (tab (l0 ++ l1)) a0.tmps.size ops.toList k)
    (hfin : ∀ a w vals, a.defers = a0.defers → a.tmps.size = a0.tmps.size → (∀ t, t < a0.tmps.size → tab (l0 ++ l1) t (a.tmps.getD t undef) w) → (∀ j o, ops[j]? = some o → o.dst = none → tab (l0 ++ l1) (a0.tmps.size + j) undef w) →
      vals.length = ph.length → (∀ k : Nat, k < ph.length → ∃ u : Value, vals[k]? = some (some u)) → QFacts ops ph vals a → S vals w → Q .normal a w) :
    wpAny P .any ops Q ops.size (Array.replicate ops.size false) a0 w0.drew := by
  have hall := qspecs_at hk hob
  refine (parts_any (S := S) (T := tab (l0 ++ l1)) hs hp (stable_tab hst) ?_ ?_ ?_ hfin ops.size _ a0 _ (by simp) ?_ ⟨⟨rfl, rfl, fun t ht hfree => ?_, fun j o hj _ hl => ?_⟩, ph.map fun _ => none, by simp, ?_, ?_, ?_, hS⟩)
  · intro i hi o ho
    unfold quietB at hq
    rw [List.all_eq_true] at hq
    have := hq i hi
    rw [ho] at this
    refine ⟨fun t ht u w => ?_, fun hd u w => ?_⟩
    · simp only [ht] at this
      exact tab_free (by simpa using this) u w
    · simp only [hd] at this
      exact tab_free (by simpa using this) u w
  · intro i o hi ho vals
    rcases hall i o (by simpa using ho) with ⟨lk, g, h1, h2, h3⟩ | ⟨n, lk, s, q, h1, _⟩
    · have := obs_of (P := P) (S := S vals) (E := E) (T := tab (l0 ++ l1)) (v := a0.tmps.size + i) h2 ⟨h3 vals, trivial⟩
      exact this.1
    · rw [Nat.zero_add] at h1
      exact absurd (List.mem_of_getElem? h1) hi
  · intro n i o hi ho a w vals hv hnone hSv hl hpf hdone
    rcases hall i o (by simpa using ho) with ⟨lk, g, h1, h2, h3⟩ | ⟨n', lk, s, q, h1, h2, h3, h3q, h4⟩
    · rw [Nat.zero_add] at h1
      exact absurd (List.mem_of_getElem? hi) h1
    · rw [Nat.zero_add] at h1
      obtain ⟨o', _, hph'⟩ := parted_of hp hi
      have := hph'.once n' h1
      subst this
      refine h4 a w vals hv hnone hSv (facts_of fun t ht => hl t (h2 t ht)) ?_ ?_
      · have : ∀ s' : List (Nat × Tmp), (∀ x ∈ s', x ∈ s) → QSlots vals a s' := by
          intro s'
          induction s' with
          | nil => intro _; trivial
          | cons x r ih =>
            intro hx
            obtain ⟨i', oi, q1, q2, q3, e, q4, q5, q6⟩ := h3 x (hx x (List.mem_cons_self ..))
            obtain ⟨u, hu⟩ := hdone x.1 i' q1 ⟨e, q4, q5, q6⟩
            refine ⟨?_, ih fun y hy => hx y (List.mem_cons_of_mem _ hy)⟩
            rw [hu, ← hpf x.1 i' oi x.2 u q1 q2 q3 hu]
        exact this s fun _ h => h
      · have : ∀ q' : List Nat, (∀ x ∈ q', x ∈ q) → QDone vals q' := by
          intro q'
          induction q' with
          | nil => intro _; trivial
          | cons x r ih =>
            intro hx
            obtain ⟨i', q1, e, q4, q5, q6⟩ := h3q x (hx x (List.mem_cons_self ..))
            exact ⟨hdone x i' q1 ⟨e, q4, q5, q6⟩, ih fun y hy => hx y (List.mem_cons_of_mem _ hy)⟩
        exact this q fun _ h => h
  · refine Nat.le_trans (List.length_filter_le _ _) ?_
    simp
  · unfold tab
    cases hf : (l0 ++ l1).find? (fun p => p.1 == t) with
    | none => trivial
    | some p =>
      have hpt : p.1 = t := by simpa using List.find?_some hf
      rcases List.mem_append.1 (List.mem_of_find?_eq_some hf) with h | h
      · have := start_mem hst0 p h
        rw [hpt] at this
        exact this
      · exfalso
        rw [List.all_eq_true] at hw
        have := hw p h
        simp only [Bool.or_eq_true, decide_eq_true_eq, List.any_eq_true, beq_iff_eq, Array.mem_toList_iff] at this
        rcases this with hge | ⟨o, ho, hd⟩
        · omega
        · obtain ⟨j, hj⟩ := Array.getElem?_of_mem ho
          have := hfree j o hj (by rw [hd, hpt])
          have hlt := (Array.getElem?_eq_some_iff.1 hj).1
          simp [Array.getD_eq_getD_getElem?, hlt] at this
  · have hlt := (Array.getElem?_eq_some_iff.1 hj).1
    simp [Array.getD_eq_getD_getElem?, hlt] at hl
  · intro k2 i2 h2 hl
    obtain ⟨o, ho, _⟩ := parted_of hp h2
    have hlt := (Array.getElem?_eq_some_iff.1 ho).1
    simp [Array.getD_eq_getD_getElem?, hlt] at hl
  · intro k2 i2 h2 _
    simp [h2]
  · intro k2 i2 o2 t2 u2 h2 _ _ hu
    simp [h2] at hu
end
end Go.Proofs.YtkjiokepihmpfaaDoor
