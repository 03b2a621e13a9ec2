/- Two rows that grow side by side: an area's values, Args. No condition. -/
/- What the loop of FunChooses keeps. No condition. -/
/- A region that draws its order, with operations (blocks made, boxes filled) of which some only stand in a forced order: what holds by WHICH of them have been done. No condition. -/
/- Two boxes of values made and filled in a drawn region; values held unlike. No condition. -/
import Derived.Test.YtngkolcpbgibcaaGreatDoorTy1
import Derived.Test.YtngkolcpbgibcaaGreatDoorJoin
import Derived.Test.YtngkolcpbgibcaaGreatDoorKd
set_option linter.unusedVariables false
set_option linter.unusedSimpArgs false
namespace Go.Proofs.YtngkolcpbgibcaaGreatDoor
open Go.RowKit Go.Lib
def FY (W : World) (X : Nat → Prop) (v : Value) (i : Nat) : Prop := i < W.heap.size ∧ v.ownBlock ≠ some i ∧ ¬ X i
abbrev OwnY (W : World) (X : Nat → Prop) (base : Nat) (v : Value) (L : List (Bool × List VX)) : Prop := OwnF argF W (FY W X v) base 55 v L
section
variable {W W' : World} {X X' T : Nat → Prop} {base : Nat} {v : Value} {L : List (Bool × List VX)}
theorem OwnY.keep (h : OwnY W X base v L) (hK : Keep T W W') (hT : ∀ i, v.ownBlock = some i → ¬ T i) (hX : ∀ i, T i → X i ∨ W.heap.size ≤ i) (hX' : ∀ i, X' i → X i ∨ W.heap.size ≤ i) : OwnY W' X' base v L :=
  OwnF.keep h hK hT fun i hi => ⟨⟨Nat.lt_of_lt_of_le hi.1 hK.size, hi.2.1, fun hx => (hX' i hx).elim hi.2.2 fun hs => by have := hi.1; omega⟩, hK.block i hi.1 fun ht => (hX i ht).elim hi.2.2 fun hs => by have := hi.1; omega⟩
theorem OwnY.below (h : OwnY W X base v L) (hb : Below W.heap.size W W') : OwnY W' X base v L :=
  h.keep (T := fun _ => False) (Keep.of_below hb fun i hi hB => by omega) (fun _ _ h => h) (fun _ h => h.elim) (fun _ h => .inl h)
theorem OwnY.read (h : OwnY W X base v L) : ∃ A c, v = .slice A L.length c ∧ L.length ≤ c ∧ RowF argF W (· < W.heap.size) A L.length L :=
  OwnF.read h (F' := (· < W.heap.size)) (fun i hi => (h.lt i hi).2) fun i hi => hi.1
end
theorem own_first {W : World} {X : Nat → Prop} {base g q : Nat} {x : VX} (hq : Bk W q 55 (ac false (some ⟨g, 0, none⟩) 1 1).toArray) (hg : Bk W g 32 (vc x).toArray) (hX : ¬ X g) (hb : base ≤ q) : OwnY W X base (.slice (some ⟨q, 0, none⟩) 1 1) [(false, [x])] := by
  have hne : q ≠ g := by
    rintro rfl; have := (bk_inj hq hg).1
    cases this
  refine ⟨[(ac false (some ⟨g, 0, none⟩) 1 1, (false, [x]))], rfl, fun p hp => ?_, rfl, .inr ⟨q, 1, _, rfl, hb, hq, Nat.le_refl _, by simp [maxLen], rfl, rfl⟩⟩; simp only [List.mem_cons, List.not_mem_nil, or_false] at hp; subst hp; refine ⟨_, 1, rfl, Nat.le_refl _, rfl, fun _ => ⟨_, rfl, ⟨hg.lt, fun e => hne (Option.some.inj e), hX⟩, fun i y hi => ?_⟩⟩
  cases i with
  | zero =>
    simp only [List.getElem?_cons_zero, Option.some.injEq] at hi; subst hi; exact ⟨_, rfl, fun j u hu => by rw [Nat.zero_mul, Nat.zero_add, addr_zero, hg.cell]; simpa using hu⟩
  | succ i => simp at hi
theorem app_y {o : Oper} {a : Act} {W : World} {K : Act → World → Prop} {Q : Exit → Act → World → Prop} {X : Nat → Prop} {base g q n c : Nat} {A : Option Addr} {L : List (Bool × List VX)} {x : VX} (h : OwnY W X base (.slice A n c) L) (hg : Bk W g 32 (vc x).toArray) (hgo : (Value.slice A n c).ownBlock ≠ some g) (hgX : ¬ X g) (hq : Bk W q 55 (ac false (some ⟨g, 0, none⟩) 1 1).toArray) (hbase : base ≤ W.heap.size) (hlen : L.length ≤ 1000000000)
    (s y : Operand) (ho : o.op = .call { callee := .builtin .append, args := #[s, y], argTypes := #[34, 34] }) (hs : a.eval s = .slice A n c) (hy : a.eval y = .slice (some ⟨q, 0, none⟩) 1 1)
    (hk : ∀ A' n' c' W', OwnY W' X base (.slice A' n' c') (L ++ [(false, [x])]) → Keep (fun i => (Value.slice A n c).ownBlock = some i) W W' → ((Value.slice A' n' c').ownBlock = (Value.slice A n c).ownBlock ∨ ∃ k, (Value.slice A' n' c').ownBlock = some k ∧ W.heap.size ≤ k) → K (a.put o.dst (.slice A' n' c')) W') : o.wp Tryz.prog a W K Q := by
  obtain ⟨S, h1, h2, hown⟩ := h.ex; have hrd : Rd W W.heap.size 2 (some ⟨q, 0, none⟩) 1 (ac false (some ⟨g, 0, none⟩) 1 1) := ⟨rfl, fun _ => ⟨_, rfl, hq.lt, fun j u hu => by rw [addr_zero, hq.cell]; simpa using hu⟩⟩
  refine wp_app argRow s y ho hs hy hown hrd (ac_one _ _ _ _) (by unfold maxLen; omega) (by omega) hbase ?_; intro v' W' ho' hgr hb'; have hK := Keep.of_grew (S := fun i => (Value.slice A n c).ownBlock = some i) hgr fun i hi => hi.symm
  have hne : ∀ i, i < W.heap.size → (Value.slice A n c).ownBlock ≠ some i → v'.ownBlock ≠ some i := by
    intro i hi hn e
    rcases hgr.lies with hl | ⟨k, hl, hk⟩
    · exact hn (hl.symm.trans e)
    · rw [e] at hl; injection hl with hl; omega
  have hm : Move W (FY W X (.slice A n c)) W' (FY W' X v') := fun i hi => ⟨⟨Nat.lt_of_lt_of_le hi.1 hK.size, hne i hi.1 hi.2.1, hi.2.2⟩, hK.block i hi.1 hi.2.1⟩
  have hgb := hK.bk hg hgo
  have hx : argF.R W' (FY W' X v') (ac false (some ⟨g, 0, none⟩) 1 1) (false, [x]) := by
    refine ⟨_, 1, rfl, Nat.le_refl _, rfl, fun _ => ⟨_, rfl, ⟨hgb.lt, hne g hg.lt hgo, hgX⟩, fun i y hi => ?_⟩⟩
    cases i with
    | zero =>
      simp only [List.getElem?_cons_zero, Option.some.injEq] at hi; subst hi; exact ⟨_, rfl, fun j u hu => by rw [Nat.zero_mul, Nat.zero_add, addr_zero, hgb.cell]; simpa using hu⟩
    | succ i => simp at hi
  have hO : OwnY W' X base v' (L ++ [(false, [x])]) := OwnF.snoc h1 h2 hm hx ho'; obtain ⟨A', c', rfl, _⟩ := hO.form; exact hk A' _ c' W' hO hK hgr.lies
end Go.Proofs.YtngkolcpbgibcaaGreatDoor
namespace Go.Proofs.YtngkolcpbgibcaaGreatDoor
open Go.RowKit Go.Lib
section
variable {o : Oper} {a : Act} {w W : World} {K : Act → World → Prop} {Q : Exit → Act → World → Prop} {u : Value}
theorem lfm_str (x : Operand) {q : Addr} (ho : o.op = .load 9 x) (hx : a.eval x = .pointer (some q)) (c : W.cell? q = some u) (h : K (a.put o.dst u) W) : o.wp Tryz.prog a W K Q := by
  unfold Oper.wp execOp; rw [ho]; simp only [hx]; clear ho hx; go_simp; exact h
end
section
variable {w W W' : World} {g k : Nat} {v v' : Value} {cs cs' : List Value} {xs ys : List Value} {n m : Nat}
theorem aq_below (h : BX w [(g, 55, cs)] W) (ho : W.ownsRow w.heap.size 32 6 v n xs) (hK : Keep (AqT g v) W W') : Below w.heap.size w W' := by
  have hg : w.heap.size ≤ g := h.lo (g, _, _) (List.mem_cons_self ..); refine h.bel.trans (hK.below h.bel.size fun i hi ht => ?_)
  rcases ht with rfl | ht
  · omega
  · have := own_base6 ho i ht; omega
theorem bx_aq (h : BX w [(g, 55, cs)] W) (ho : W.ownsRow w.heap.size 32 6 v n xs) (hK : Keep (AqT g v) W W') (hb : Bk W' g 55 cs'.toArray) : BX w [(g, 55, cs')] W' := by
  have hg : w.heap.size ≤ g := h.lo (g, _, _) (List.mem_cons_self ..); refine ⟨h.bel.trans (hK.below h.bel.size fun i hi ht => ?_), fun b hb' => ?_, fun b hb' => ?_, by simp⟩
  · rcases ht with rfl | ht
    · omega
    · have := own_base6 ho i ht; omega
  · rw [List.mem_singleton] at hb'; subst hb'; exact hg
  · rw [List.mem_singleton] at hb'; subst hb'; exact hb
theorem own_arg_aq {L : List (Bool × List VX)} {X : Nat → Prop} {u : Value} (hy : OwnY W X w.heap.size u L) (ho : W.ownsRow w.heap.size 32 6 v n xs) (hg : u.ownBlock ≠ some g) : ∀ i, u.ownBlock = some i → ¬ AqT g v i := by
  intro i hi ht; obtain ⟨S, _, _, hown⟩ := hy.ex
  rcases ht with rfl | ht
  · exact hg hi
  · exact own_own_ne hown ho (by decide) i hi ht
theorem own_grew {A A' : Option Addr} {n c n' c' : Nat} (hl : (Value.slice A' n' c').ownBlock = (Value.slice A n c).ownBlock ∨ ∃ k, (Value.slice A' n' c').ownBlock = some k ∧ W.heap.size ≤ k) (h : (Value.slice A n c).ownBlock ≠ some g) (hg : g < W.heap.size) : (Value.slice A' n' c').ownBlock ≠ some g := by
  intro e
  rcases hl with hl | ⟨k, hl, hk⟩
  · exact h (hl.symm.trans e)
  · rw [e] at hl; injection hl with hl; omega
end
end Go.Proofs.YtngkolcpbgibcaaGreatDoor
namespace Go.Proofs.YtngkolcpbgibcaaGreatDoor
open Go.RowKit
section
variable {P : Program} {ops : Array Oper} {ph : List Nat} {Q : Exit → Act → World → Prop} {S : List (Option Value) → World → Prop} {E : World → World → Prop} {T : Nat → Value → World → Prop}
def QFacts (ops : Array Oper) (ph : List Nat) (vals : List (Option Value)) (a : Act) : Prop := ∀ (k i : Nat) (o : Oper) (t : Tmp) (u : Value), ph[k]? = some i → ops[i]? = some o → o.dst = some t → vals[k]? = some (some u) → u = a.tmps.getD t undef
def QhOb (P : Program) (ops : Array Oper) (ph : List Nat) (S : List (Option Value) → World → Prop) (E : World → World → Prop) (T : Nat → Value → World → Prop) (k : Nat) (o : Oper) : Prop :=
  ∀ (a : Act) (w : World) (vals : List (Option Value)), vals.length = ph.length → vals[k]? = some none → S vals w → (∀ t ∈ o.looksAt ops, T t (a.tmps.getD t undef) w) → QFacts ops ph vals a →
    (∀ (j i : Nat), ph[j]? = some i → (∃ e ∈ o.after, Region.binds .any e = true ∧ e.on = i) → ∃ u, vals[j]? = some (some u)) →
    Lands P (fun _ => True) E (fun u w' => S (vals.set k (some u)) w') w ((execOp a.eval o).run P w)
def partsB (ops : Array Oper) (ph : List Nat) : Bool :=
  ph.zipIdx.all fun (i, k) =>
    (match ops[i]? with
     | none => false
     | some o => o.guard.isNone && (match o.dst with
        | none => true
        | some t => ops.toList.zipIdx.all fun (oj, j) => j == i || oj.dst != some t)) &&
    ph.zipIdx.all fun (i', k') => k' == k || i' != i
structure Parted (ops : Array Oper) (ph : List Nat) (k i : Nat) (o : Oper) : Prop where
  guard : o.guard = none
  alone : ∀ t, o.dst = some t → ∀ j oj, ops[j]? = some oj → oj.dst = some t → j = i
  once : ∀ k', ph[k']? = some i → k' = k
theorem parted_of (h : partsB ops ph = true) {k i : Nat} (hk : ph[k]? = some i) : ∃ o, ops[i]? = some o ∧ Parted ops ph k i o := by
  unfold partsB at h; rw [List.all_eq_true] at h; have hh := h (i, k) (List.mk_mem_zipIdx_iff_getElem?.2 hk); simp only [Bool.and_eq_true, List.all_eq_true, Bool.or_eq_true] at hh; obtain ⟨h1, h2⟩ := hh
  cases ho : ops[i]? with
  | none => rw [ho] at h1; cases h1
  | some o =>
    rw [ho] at h1; simp only [Bool.and_eq_true, Option.isNone_iff_eq_none] at h1; obtain ⟨g1, g2⟩ := h1; refine ⟨o, rfl, g1, fun t ht j oj hj hd => ?_, fun k' hk' => ?_⟩
    · rw [ht] at g2; simp only [List.all_eq_true, Bool.or_eq_true, beq_iff_eq, bne_iff_ne, ne_eq] at g2
      rcases g2 (oj, j) (List.mk_mem_zipIdx_iff_getElem?.2 (by simpa using hj)) with e | e
      · exact e
      · exact absurd hd e
    · have := h2 (i, k') (List.mk_mem_zipIdx_iff_getElem?.2 hk')
      simpa using this
structure MidQ (ops : Array Oper) (ph : List Nat) (S : List (Option Value) → World → Prop) (T : Nat → Value → World → Prop) (a0 : Act) (listed : Array Bool) (a : Act) (w : World) : Prop where
  mid : Mid ops T a0 listed a w
  phase : ∃ vals : List (Option Value), vals.length = ph.length ∧ (∀ (k i : Nat), ph[k]? = some i → listed.getD i true = true → ∃ u, vals[k]? = some (some u)) ∧ (∀ (k i : Nat), ph[k]? = some i → listed.getD i true = false → vals[k]? = some none) ∧ QFacts ops ph vals a ∧ S vals w
theorem parts_any {a0 : Act} (hs : settledB ops a0.tmps.size = true) (hp : partsB ops ph = true) (hT : ∀ t v w w', E w w' → T t v w → T t v w')
    (hTp : ∀ i ∈ ph, ∀ o, ops[i]? = some o → (∀ t, o.dst = some t → ∀ u w, T t u w) ∧ (o.dst = none → ∀ u w, T (a0.tmps.size + i) u w))
    (hob : ∀ i o, i ∉ ph → ops[i]? = some o → ∀ vals, Ob P ops (S vals) E T (a0.tmps.size + i) o) (hph : ∀ k i o, ph[k]? = some i → ops[i]? = some o → QhOb P ops ph S E T k o)
    (hfin : ∀ a w vals, a.defers = a0.defers → a.tmps.size = a0.tmps.size → (∀ t, t < a0.tmps.size → T t (a.tmps.getD t undef) w) → (∀ j o, ops[j]? = some o → o.dst = none → T (a0.tmps.size + j) undef w) → vals.length = ph.length → (∀ k : Nat, k < ph.length → ∃ u : Value, vals[k]? = some (some u)) → QFacts ops ph vals a → S vals w → Q .normal a w) :
    ∀ (fuel : Nat) (listed : Array Bool) (a : Act) (w : World), listed.size = ops.size → left ops listed ≤ fuel → MidQ ops ph S T a0 listed a w → wpAny P .any ops Q fuel listed a w := by
  have fin : ∀ (listed : Array Bool) (a : Act) (w : World), Region.ready .any ops listed = [] → MidQ ops ph S T a0 listed a w → Q .normal a w := by
    intro listed a w hr hm; obtain ⟨vals, hv1, hv2, hv2', hv3, hv4⟩ := hm.phase
    refine hfin a w vals hm.mid.defers hm.mid.size (fun t ht => hm.mid.told t ht fun j o hj _ => all_listed hs hr j (Array.getElem?_eq_some_iff.1 hj).1)
      (fun j o hj hd => hm.mid.done_ j o hj hd (all_listed hs hr j (Array.getElem?_eq_some_iff.1 hj).1)) hv1 (fun k hk => ?_) hv3 hv4
    obtain ⟨o, ho, _⟩ := parted_of hp (List.getElem?_eq_getElem hk); exact hv2 k _ (List.getElem?_eq_getElem hk) (all_listed hs hr _ (Array.getElem?_eq_some_iff.1 ho).1)
  intro fuel
  induction fuel with
  | zero =>
    intro listed a w hsz hleft hm
    have hr : Region.ready .any ops listed = [] := by
      refine List.eq_nil_iff_forall_not_mem.2 fun i hi => ?_; obtain ⟨hu, o, ho, _⟩ := mem_ready.1 hi; have := left_less (ops := ops) (Array.getElem?_eq_some_iff.1 ho).1 hu; omega
    exact ⟨hr, fin listed a w hr hm⟩
  | succ fuel ih =>
    intro listed a w hsz hleft hm; refine ⟨fun hr => fin listed a w hr hm, fun i hi => ?_⟩; obtain ⟨hu, o, ho, hedges⟩ := mem_ready.1 hi; have hisz := (Array.getElem?_eq_some_iff.1 ho).1; have st := settled_of hs ho; have hleft' := left_less (ops := ops) hisz hu; obtain ⟨vals, hv1, hv2, hv2', hv3, hv4⟩ := hm.phase
    -- behind the operation, what is foretold
    have next : ∀ u w', dstR T (a0.tmps.size + i) o.dst u w' → E w w' → Mid ops T a0 (listed.setIfInBounds i true) (a.put o.dst u) w' := by
      intro u w' hR hE; refine ⟨?_, ?_, ?_, ?_⟩
      · cases o.dst <;> exact hm.mid.defers
      · cases o.dst with
        | none => exact hm.mid.size
        | some d => simp [Act.put, hm.mid.size]
      · intro t ht hall
        by_cases hd : o.dst = some t
        · rw [hd, getD_put_self (by rw [hm.mid.size]; exact ht)]; exact hR.1 t hd
        · have hg : (a.put o.dst u).tmps.getD t undef = a.tmps.getD t undef := by
            cases hdd : o.dst with
            | none => rfl
            | some d => exact getD_put_ne fun e => hd (by rw [hdd, e])
          rw [hg]; refine hT t _ w w' hE (hm.mid.told t ht fun j oj hj hdj => ?_)
          have hji : j ≠ i := by
            rintro rfl; rw [ho] at hj; injection hj with hj; subst hj; exact hd hdj
          have := hall j oj hj hdj
          rwa [getD_set_ne true (Ne.symm hji)] at this
      · intro j oj hj hdj hl
        by_cases hji : j = i
        · subst hji; rw [ho] at hj; injection hj with hj; subst hj; exact hR.2 hdj
        · rw [getD_set_ne true (Ne.symm hji)] at hl; exact hT _ _ w w' hE (hm.mid.done_ j oj hj hdj hl)
    unfold wpOp; simp only [ho]
    have hlook : ∀ t ∈ o.looksAt ops, T t (a.tmps.getD t undef) w ∧ a.tmps[t]? = some (a.tmps.getD t undef) := by
      intro t ht; obtain ⟨hlt, hw⟩ := st.looks t ht; refine ⟨hm.mid.told t hlt fun j oj hj hd => ?_, ?_⟩
      · obtain ⟨e, he, hb, rfl⟩ := hw j oj hj hd; have := hedges e he hb; simp only [Array.getD_eq_getD_getElem?] at this ⊢
        cases hx : listed[e.on]? with
        | some b => rw [hx] at this; simpa using this
        | none => rfl
      · rw [Array.getD_eq_getD_getElem?, Array.getElem?_eq_getElem (by rw [hm.mid.size]; exact hlt)]; rfl
    by_cases hiph : i ∈ ph
    · obtain ⟨k, hk⟩ := List.getElem?_of_mem hiph; obtain ⟨o', ho', hph'⟩ := parted_of hp hk; rw [ho] at ho'; injection ho' with ho'; subst ho'; have hkl := hv2' k i hk hu; have hwant : Region.wanted o (yielded ops a.tmps) = true := by simp [Region.wanted, hph'.guard]
      rw [if_pos hwant]
      have hl := hph k i o hk ho a w vals hv1 hkl hv4 (fun t ht => (hlook t ht).1) hv3 (fun j i' hj ⟨e, he, hb, hon⟩ => by
        have h1 := hedges e he hb; refine hv2 j i' hj ?_; rw [← hon]; simp only [Array.getD_eq_getD_getElem?] at h1 ⊢
        cases hx : listed[e.on]? with
        | some b => rw [hx] at h1; simpa using h1
        | none => rfl)
      refine .inl (lands_wp hl fun u w' hR _ hE => ?_); have hTT := hTp i hiph o ho; have hkv : k < vals.length := (List.getElem?_eq_some_iff.1 hkl).1; refine ih _ _ _ (by simpa using hsz) (by omega) ⟨next u w' ⟨fun d hd => hTT.1 d hd _ _, fun hd => hTT.2 hd _ _⟩ hE, vals.set k (some u), by simpa using hv1, ?_, ?_, ?_, hR⟩
      · intro k2 i2 h2 hl2
        by_cases h22 : i2 = i
        · subst h22; have := hph'.once k2 h2; subst this; exact ⟨u, by simp [hkv]⟩
        · rw [getD_set_ne true (Ne.symm h22)] at hl2; have hne : k2 ≠ k := by rintro rfl; rw [hk] at h2; injection h2 with h2; exact h22 h2.symm
          rw [List.getElem?_set_ne (Ne.symm hne)]; exact hv2 k2 i2 h2 hl2
      · intro k2 i2 h2 hl2
        by_cases h22 : i2 = i
        · subst h22; rw [getD_set_self] at hl2
          cases hl2
        · rw [getD_set_ne true (Ne.symm h22)] at hl2; have hne : k2 ≠ k := by rintro rfl; rw [hk] at h2; injection h2 with h2; exact h22 h2.symm
          rw [List.getElem?_set_ne (Ne.symm hne)]; exact hv2' k2 i2 h2 hl2
      · intro k2 i2 o2 t2 u2 h2 ho2 hd2 hu2
        by_cases h22 : i2 = i
        · subst h22; have := hph'.once k2 h2; subst this; rw [ho] at ho2; injection ho2 with ho2; subst ho2; rw [hd2, getD_put_self (by rw [hm.mid.size]; exact st.dst _ hd2)]; simp [hkv] at hu2; exact hu2.symm
        · have hne : k2 ≠ k := by rintro rfl; rw [hk] at h2; injection h2 with h2; exact h22 h2.symm
          rw [List.getElem?_set_ne (Ne.symm hne)] at hu2
          have hg : (a.put o.dst u).tmps.getD t2 undef = a.tmps.getD t2 undef := by
            cases hdd : o.dst with
            | none => rfl
            | some d =>
              refine getD_put_ne fun e => h22 ?_; subst e; exact hph'.alone d hdd i2 o2 ho2 hd2
          rw [hg]; exact hv3 k2 i2 o2 t2 u2 h2 ho2 hd2 hu2
    · have h := hob i o hiph ho vals a w hv4 hlook
      have goon : ∀ u w', dstR T (a0.tmps.size + i) o.dst u w' → S vals w' → E w w' → wpAny P .any ops Q fuel (listed.setIfInBounds i true) (a.put o.dst u) w' := by
        intro u w' hR hS hE; refine ih _ _ _ (by simpa using hsz) (by omega) ⟨next u w' hR hE, vals, hv1, ?_, ?_, ?_, hS⟩
        · intro k2 i2 h2 hl2; have h22 : i2 ≠ i := by rintro rfl; exact hiph (List.mem_of_getElem? h2)
          rw [getD_set_ne true (Ne.symm h22)] at hl2; exact hv2 k2 i2 h2 hl2
        · intro k2 i2 h2 hl2; have h22 : i2 ≠ i := by rintro rfl; exact hiph (List.mem_of_getElem? h2)
          rw [getD_set_ne true (Ne.symm h22)] at hl2; exact hv2' k2 i2 h2 hl2
        · intro k2 i2 o2 t2 u2 h2 ho2 hd2 hu2
          have hg : (a.put o.dst u).tmps.getD t2 undef = a.tmps.getD t2 undef := by
            cases hdd : o.dst with
            | none => rfl
            | some d =>
              refine getD_put_ne fun e => ?_; subst e; obtain ⟨o3, ho3, hph3⟩ := parted_of hp h2; rw [ho2] at ho3; injection ho3 with ho3; subst ho3; have := hph3.alone d hd2 i o ho hdd; subst this; exact hiph (List.mem_of_getElem? h2)
          rw [hg]; exact hv3 k2 i2 o2 t2 u2 h2 ho2 hd2 hu2
      by_cases hwant : Region.wanted o (yielded ops a.tmps) = true
      · rw [if_pos hwant] at h ⊢; exact .inl (lands_wp h goon)
      · rw [if_neg hwant] at h ⊢; exact goon undef w h.1 hv4 h.2
def QSlots (vals : List (Option Value)) (a : Act) : List (Nat × Tmp) → Prop
  | [] => True
  | (k, t) :: r => vals[k]? = some (some (a.tmps.getD t undef)) ∧ QSlots vals a r
def QDone (vals : List (Option Value)) : List Nat → Prop
  | [] => True
  | k :: r => (∃ u, vals[k]? = some (some u)) ∧ QDone vals r
inductive QSpec where
  | op (l : List Tmp) (g : Option (Tmp × Bool))
  | phase (k : Nat) (l : List Tmp) (s : List (Nat × Tmp)) (q : List Nat)
def ObsQ (P : Program) (len : Nat) (S : List (Option Value) → World → Prop) (E : World → World → Prop) (T : Nat → Value → World → Prop) : Nat → List Oper → List QSpec → Prop
  | v, o :: r, .op l g :: k => (∀ vals, ObT P (S vals) E T l g v o) ∧ ObsQ P len S E T (v + 1) r k
  | v, o :: r, .phase n l s q :: k => (∀ (a : Act) (w : World) (vals : List (Option Value)), vals.length = len → vals[n]? = some none → S vals w → Facts T a w l → QSlots vals a s → QDone vals q →
      Lands P (fun _ => True) E (fun u w' => S (vals.set n (some u)) w') w ((execOp a.eval o).run P w)) ∧ ObsQ P len S E T (v + 1) r k
  | _, _, _ => True
def qspecsB (ops : Array Oper) (ph : List Nat) : Nat → List Oper → List QSpec → Bool
  | _, [], [] => true
  | i, o :: r, .op l g :: k => !ph.contains i && looksB ops [o] [(l, g)] && qspecsB ops ph (i + 1) r k
  | i, o :: r, .phase n l s q :: k => ph[n]? == some i && (l.all fun t => (o.looksAt ops).contains t) &&
      (s.all fun (j, t) => (o.looksAt ops).contains t && match ph[j]? with
        | none => false
        | some i' => (ops[i']?).bind (·.dst) == some t && o.after.toList.any fun e => Region.binds .any e && e.on == i') &&
      (q.all fun j => match ph[j]? with
        | none => false
        | some i' => o.after.toList.any fun e => Region.binds .any e && e.on == i') && qspecsB ops ph (i + 1) r k
  | _, _, _ => false
theorem qspecs_at {len : Nat} : ∀ {l : List Oper} {k : List QSpec} {v i : Nat}, qspecsB ops ph i l k = true → ObsQ P len S E T v l k → ∀ j o, l[j]? = some o →
    (∃ lk g, i + j ∉ ph ∧ looksB ops [o] [(lk, g)] = true ∧ ∀ vals, ObT P (S vals) E T lk g (v + j) o) ∨
    (∃ n lk s q, ph[n]? = some (i + j) ∧ (∀ t ∈ lk, t ∈ o.looksAt ops) ∧ (∀ x ∈ s, ∃ i' oi, ph[x.1]? = some i' ∧ ops[i']? = some oi ∧ oi.dst = some x.2 ∧ ∃ e ∈ o.after, Region.binds .any e = true ∧ e.on = i') ∧
      (∀ x ∈ q, ∃ i', ph[x]? = some i' ∧ ∃ e ∈ o.after, Region.binds .any e = true ∧ e.on = i') ∧
      ∀ (a : Act) (w : World) (vals : List (Option Value)), vals.length = len → vals[n]? = some none → S vals w → Facts T a w lk → QSlots vals a s → QDone vals q → Lands P (fun _ => True) E (fun u w' => S (vals.set n (some u)) w') w ((execOp a.eval o).run P w))
  | [], _, _, _, _, _, j, _, hj => by simp at hj
  | _ :: _, [], _, _, h, _, _, _, _ => by simp [qspecsB] at h
  | x :: r, .op l g :: k, v, i, h, hb, j, o, hj => by
    simp only [qspecsB, Bool.and_eq_true, Bool.not_eq_true'] at h
    cases j with
    | zero =>
      simp at hj; subst hj; refine .inl ⟨l, g, ?_, h.1.2, hb.1⟩; intro hm; have := List.contains_iff_mem.2 hm; rw [Nat.add_zero, h.1.1] at this
      cases this
    | succ j =>
      have := qspecs_at h.2 hb.2 j o (by simpa using hj)
      rwa [show i + 1 + j = i + (j + 1) by omega, show v + 1 + j = v + (j + 1) by omega] at this
  | x :: r, .phase n l s q :: k, v, i, h, hb, j, o, hj => by
    simp only [qspecsB, Bool.and_eq_true, beq_iff_eq, List.all_eq_true, List.contains_iff_mem] at h
    cases j with
    | zero =>
      simp at hj; subst hj; refine .inr ⟨n, l, s, q, h.1.1.1.1, h.1.1.1.2, fun y hy => ?_, fun y hy => ?_, hb.1⟩
      · have h2 := (h.1.1.2 y hy).2
        cases h3 : ph[y.1]? with
        | none => rw [h3] at h2; cases h2
        | some i' =>
          rw [h3] at h2; simp only [Bool.and_eq_true, beq_iff_eq, Option.bind_eq_some_iff, List.any_eq_true, Array.mem_toList_iff] at h2; obtain ⟨⟨oi, h4, h5⟩, e, h6, h7, h8⟩ := h2; exact ⟨i', oi, rfl, h4, h5, e, h6, h7, h8⟩
      · have h2 := h.1.2 y hy
        cases h3 : ph[y]? with
        | none => rw [h3] at h2; cases h2
        | some i' =>
          rw [h3] at h2; simp only [List.any_eq_true, Array.mem_toList_iff, Bool.and_eq_true, beq_iff_eq] at h2; obtain ⟨e, h6, h7, h8⟩ := h2; exact ⟨i', rfl, e, h6, h7, h8⟩
    | succ j =>
      have := qspecs_at h.2 hb.2 j o (by simpa using hj)
      rwa [show i + 1 + j = i + (j + 1) by omega, show v + 1 + j = v + (j + 1) by omega] at this
theorem wp_region_parts {id : Nat} {a0 : Act} {w0 : World} (ph : List Nat) (l0 l1 : List (Nat × (Value → World → Prop))) (k : List QSpec)
    (hm : P.follows .mixedOrders = true) (hs : settledB ops a0.tmps.size = true) (hp : partsB ops ph = true) (hk : qspecsB ops ph 0 ops.toList k = true)
    (hq : quietB ops ph a0.tmps.size ((l0 ++ l1).map (·.1)) = true)
    (hw : (l1.all fun p => decide (a0.tmps.size ≤ p.1) || ops.toList.any fun o => o.dst == some p.1) = true) (hst : StableAll E (l0 ++ l1)) (hst0 : StartAll a0 w0.drew l0) (hS : S (ph.map fun _ => none) w0.drew)
    (hob : ObsQ P ph.length S E (tab (l0 ++ l1)) a0.tmps.size ops.toList k)
    (hfin : ∀ a w vals, a.defers = a0.defers → a.tmps.size = a0.tmps.size → (∀ t, t < a0.tmps.size → tab (l0 ++ l1) t (a.tmps.getD t undef) w) → (∀ j o, ops[j]? = some o → o.dst = none → tab (l0 ++ l1) (a0.tmps.size + j) undef w) →
      vals.length = ph.length → (∀ k : Nat, k < ph.length → ∃ u : Value, vals[k]? = some (some u)) → QFacts ops ph vals a → S vals w → Q .normal a w) :
    (Code.region id ops true).wp P Q a0 w0 := by
  have hall := qspecs_at hk hob; refine wp_region_any hm (parts_any (S := S) (T := tab (l0 ++ l1)) hs hp (stable_tab hst) ?_ ?_ ?_ hfin ops.size _ a0 _ (by simp) ?_ ⟨⟨rfl, rfl, fun t ht hfree => ?_, fun j o hj _ hl => ?_⟩, ph.map fun _ => none, by simp, ?_, ?_, ?_, hS⟩)
  · intro i hi o ho; unfold quietB at hq; rw [List.all_eq_true] at hq; have := hq i hi; rw [ho] at this; refine ⟨fun t ht u w => ?_, fun hd u w => ?_⟩
    · simp only [ht] at this; exact tab_free (by simpa using this) u w
    · simp only [hd] at this; exact tab_free (by simpa using this) u w
  · intro i o hi ho vals
    rcases hall i o (by simpa using ho) with ⟨lk, g, h1, h2, h3⟩ | ⟨n, lk, s, q, h1, _⟩
    · have := obs_of (P := P) (S := S vals) (E := E) (T := tab (l0 ++ l1)) (v := a0.tmps.size + i) h2 ⟨h3 vals, trivial⟩; exact this.1
    · rw [Nat.zero_add] at h1; exact absurd (List.mem_of_getElem? h1) hi
  · intro n i o hi ho a w vals hv hnone hSv hl hpf hdone
    rcases hall i o (by simpa using ho) with ⟨lk, g, h1, h2, h3⟩ | ⟨n', lk, s, q, h1, h2, h3, h3q, h4⟩
    · rw [Nat.zero_add] at h1; exact absurd (List.mem_of_getElem? hi) h1
    · rw [Nat.zero_add] at h1; obtain ⟨o', _, hph'⟩ := parted_of hp hi; have := hph'.once n' h1; subst this; refine h4 a w vals hv hnone hSv (facts_of fun t ht => hl t (h2 t ht)) ?_ ?_
      · have : ∀ s' : List (Nat × Tmp), (∀ x ∈ s', x ∈ s) → QSlots vals a s' := by
          intro s'
          induction s' with
          | nil => intro _; trivial
          | cons x r ih =>
            intro hx; obtain ⟨i', oi, q1, q2, q3, e, q4, q5, q6⟩ := h3 x (hx x (List.mem_cons_self ..)); obtain ⟨u, hu⟩ := hdone x.1 i' q1 ⟨e, q4, q5, q6⟩; refine ⟨?_, ih fun y hy => hx y (List.mem_cons_of_mem _ hy)⟩; rw [hu, ← hpf x.1 i' oi x.2 u q1 q2 q3 hu]
        exact this s fun _ h => h
      · have : ∀ q' : List Nat, (∀ x ∈ q', x ∈ q) → QDone vals q' := by
          intro q'
          induction q' with
          | nil => intro _; trivial
          | cons x r ih =>
            intro hx; obtain ⟨i', q1, e, q4, q5, q6⟩ := h3q x (hx x (List.mem_cons_self ..)); exact ⟨hdone x i' q1 ⟨e, q4, q5, q6⟩, ih fun y hy => hx y (List.mem_cons_of_mem _ hy)⟩
        exact this q fun _ h => h
  · refine Nat.le_trans (List.length_filter_le _ _) ?_; simp
  · unfold tab
    cases hf : (l0 ++ l1).find? (fun p => p.1 == t) with
    | none => trivial
    | some p =>
      have hpt : p.1 = t := by simpa using List.find?_some hf
      rcases List.mem_append.1 (List.mem_of_find?_eq_some hf) with h | h
      · have := start_mem hst0 p h; rw [hpt] at this; exact this
      · exfalso; rw [List.all_eq_true] at hw; have := hw p h; simp only [Bool.or_eq_true, decide_eq_true_eq, List.any_eq_true, beq_iff_eq, Array.mem_toList_iff] at this
        rcases this with hge | ⟨o, ho, hd⟩
        · omega
        · obtain ⟨j, hj⟩ := Array.getElem?_of_mem ho; have := hfree j o hj (by rw [hd, hpt]); have hlt := (Array.getElem?_eq_some_iff.1 hj).1; simp [Array.getD_eq_getD_getElem?, hlt] at this
  · have hlt := (Array.getElem?_eq_some_iff.1 hj).1; simp [Array.getD_eq_getD_getElem?, hlt] at hl
  · intro k2 i2 h2 hl; obtain ⟨o, ho, _⟩ := parted_of hp h2; have hlt := (Array.getElem?_eq_some_iff.1 ho).1; simp [Array.getD_eq_getD_getElem?, hlt] at hl
  · intro k2 i2 h2 _; simp [h2]
  · intro k2 i2 o2 t2 u2 h2 _ _ hu; simp [h2] at hu
end
end Go.Proofs.YtngkolcpbgibcaaGreatDoor
namespace Go.Proofs.YtngkolcpbgibcaaGreatDoor
open Go.RowKit Go.Lib
theorem BX.swap {w W : World} {a b : Nat × TypeId × List Value} {B : Bxs} (h : BX w (a :: b :: B) W) : BX w (b :: a :: B) W := by
  refine ⟨h.bel, fun x hx => h.lo x ?_, fun x hx => h.bk x ?_, ?_⟩
  · simp only [List.mem_cons] at hx ⊢
    rcases hx with h | h | h
    · exact .inr (.inl h)
    · exact .inl h
    · exact .inr (.inr h)
  · simp only [List.mem_cons] at hx ⊢
    rcases hx with h | h | h
    · exact .inr (.inl h)
    · exact .inl h
    · exact .inr (.inr h)
  · have := h.nd; simp only [List.map_cons, List.nodup_cons, List.mem_cons, not_or] at this ⊢; exact ⟨⟨fun e => this.1.1 e.symm, this.2.1⟩, this.1.2, this.2.2⟩
def SP (w : World) (x y : VX) : List (Option Value) → World → Prop
  | [none, none, none, none], W => BX w [] W
  | [some v, none, none, none], W => ∃ g, v = .pointer (some ⟨g, 0, none⟩) ∧ BX w [(g, 32, vc .blank)] W
  | [none, some u, none, none], W => ∃ h, u = .pointer (some ⟨h, 0, none⟩) ∧ BX w [(h, 32, vc .blank)] W
  | [some v, some u, none, none], W => ∃ g h, v = .pointer (some ⟨g, 0, none⟩) ∧ u = .pointer (some ⟨h, 0, none⟩) ∧ BX w [(h, 32, vc .blank), (g, 32, vc .blank)] W
  | [some v, some u, some _, none], W => ∃ g h, v = .pointer (some ⟨g, 0, none⟩) ∧ u = .pointer (some ⟨h, 0, none⟩) ∧ BX w [(h, 32, vc .blank), (g, 32, vc x)] W
  | [some v, some u, some _, some _], W => ∃ g h, v = .pointer (some ⟨g, 0, none⟩) ∧ u = .pointer (some ⟨h, 0, none⟩) ∧ BX w [(h, 32, vc y), (g, 32, vc x)] W
  | _, _ => False
section
variable {w W : World} {x y : VX} {vals : List (Option Value)}
theorem SP.bel (h : SP w x y vals W) : Below w.heap.size w W := by
  unfold SP at h
  split at h
  · exact h.bel
  · obtain ⟨_, _, h⟩ := h; exact h.bel
  · obtain ⟨_, _, h⟩ := h; exact h.bel
  · obtain ⟨_, _, _, _, h⟩ := h; exact h.bel
  · obtain ⟨_, _, _, _, h⟩ := h; exact h.bel
  · obtain ⟨_, _, _, _, h⟩ := h; exact h.bel
  · exact h.elim
end
theorem len4 {α : Type} {l : List α} (h : l.length = 4) : ∃ a b c d, l = [a, b, c, d] := by
  match l, h with
  | [a, b, c, d], _ => exact ⟨a, b, c, d, rfl⟩
section
variable {w W : World} {x y : VX} {vals : List (Option Value)}
theorem SP.new0 (h : SP w x y vals W) (hl : vals.length = 4) (h0 : vals[0]? = some none) : SP w x y (vals.set 0 (some (.pointer (some ⟨W.heap.size, 0, none⟩)))) (W.alloc (.cells (vc .blank).toArray 32)) := by
  obtain ⟨a, b, c, d, rfl⟩ := len4 hl; simp only [List.getElem?_cons_zero, Option.some.injEq] at h0; subst h0
  match b, c, d, h with
  | none, none, none, h => exact ⟨_, rfl, BX.made h _ _⟩
  | some u, none, none, h =>
    obtain ⟨g, rfl, hB⟩ := h; exact ⟨_, g, rfl, rfl, (BX.made hB 32 (vc .blank)).swap⟩
theorem SP.new1 (h : SP w x y vals W) (hl : vals.length = 4) (h0 : vals[1]? = some none) : SP w x y (vals.set 1 (some (.pointer (some ⟨W.heap.size, 0, none⟩)))) (W.alloc (.cells (vc .blank).toArray 32)) := by
  obtain ⟨a, b, c, d, rfl⟩ := len4 hl; simp only [List.getElem?_cons_succ, List.getElem?_cons_zero, Option.some.injEq] at h0; subst h0
  match a, c, d, h with
  | none, none, none, h => exact ⟨_, rfl, BX.made h _ _⟩
  | some u, none, none, h =>
    obtain ⟨g, rfl, hB⟩ := h; exact ⟨g, _, rfl, rfl, BX.made hB 32 (vc .blank)⟩
theorem SP.at2 {v : Value} (h : SP w x y vals W) (hl : vals.length = 4) (h2 : vals[2]? = some none) (h0 : vals[0]? = some (some v)) (h1 : ∃ u, vals[1]? = some (some u)) :
    ∃ g h, v = .pointer (some ⟨g, 0, none⟩) ∧ BX w [(h, 32, vc .blank), (g, 32, vc .blank)] W ∧ ∀ W', BX w [(h, 32, vc .blank), (g, 32, vc x)] W' → SP w x y (vals.set 2 (some undef)) W' := by
  obtain ⟨a, b, c, d, rfl⟩ := len4 hl; obtain ⟨u, h1⟩ := h1; simp only [List.getElem?_cons_succ, List.getElem?_cons_zero, Option.some.injEq] at h0 h1 h2; subst h0 h1 h2
  match d, h with
  | none, h =>
    obtain ⟨g, k, rfl, rfl, hB⟩ := h; exact ⟨g, k, rfl, hB, fun W' h' => ⟨g, k, rfl, rfl, h'⟩⟩
theorem SP.at3 {v : Value} (h : SP w x y vals W) (hl : vals.length = 4) (h3 : vals[3]? = some none) (h1 : vals[1]? = some (some v)) (h2 : ∃ u, vals[2]? = some (some u)) (h0 : ∃ u, vals[0]? = some (some u)) :
    ∃ g h, v = .pointer (some ⟨h, 0, none⟩) ∧ BX w [(h, 32, vc .blank), (g, 32, vc x)] W ∧ ∀ W', BX w [(h, 32, vc y), (g, 32, vc x)] W' → SP w x y (vals.set 3 (some undef)) W' := by
  obtain ⟨a, b, c, d, rfl⟩ := len4 hl; obtain ⟨u, h2⟩ := h2; obtain ⟨t, h0⟩ := h0; simp only [List.getElem?_cons_succ, List.getElem?_cons_zero, Option.some.injEq] at h0 h1 h2 h3; subst h0 h1 h2 h3; obtain ⟨g, k, rfl, rfl, hB⟩ := h; exact ⟨g, k, rfl, hB, fun W' h' => ⟨g, k, rfl, rfl, h'⟩⟩
theorem SP.fin (h : SP w x y vals W) (hl : vals.length = 4) (ha : ∀ k : Nat, k < 4 → ∃ u : Value, vals[k]? = some (some u)) :
    ∃ g h, vals[0]? = some (some (.pointer (some ⟨g, 0, none⟩))) ∧ vals[1]? = some (some (.pointer (some ⟨h, 0, none⟩))) ∧ BX w [(h, 32, vc y), (g, 32, vc x)] W := by
  obtain ⟨a, b, c, d, rfl⟩ := len4 hl; obtain ⟨a, ha0⟩ := ha 0 (by omega); obtain ⟨b, hb0⟩ := ha 1 (by omega); obtain ⟨c, hc0⟩ := ha 2 (by omega); obtain ⟨d, hd0⟩ := ha 3 (by omega); simp only [List.getElem?_cons_succ, List.getElem?_cons_zero, Option.some.injEq] at ha0 hb0 hc0 hd0; subst ha0 hb0 hc0 hd0; obtain ⟨g, k, rfl, rfl, hB⟩ := h; exact ⟨g, k, rfl, rfl, hB⟩
end
theorem bx_two {w W W' : World} {B : Bxs} {g h : Nat} {T U : TypeId} {cs ds : List Value} (h0 : BX w B W) (h1 : BX W [(h, U, ds), (g, T, cs)] W') : BX w ((h, U, ds) :: (g, T, cs) :: B) W' := by
  have hg : W.heap.size ≤ g := h1.lo (g, _, _) (List.mem_cons_of_mem _ (List.mem_cons_self ..)); have hh : W.heap.size ≤ h := h1.lo (h, _, _) (List.mem_cons_self ..); have hs := h0.bel.size
  have hne : g ≠ h := by
    have := h1.nd; simp at this; exact fun e => this e.symm
  refine ((h0.call h1.bel).add (h1.get (i := 1) rfl) (by omega) fun b hb e => ?_).add (h1.get (i := 0) rfl) (by omega) fun b hb e => ?_
  · have := (h0.bk b hb).lt; omega
  · rcases List.mem_cons.1 hb with rfl | hb
    · exact hne e
    · have := (h0.bk b hb).lt; omega
theorem bx_join {w W W' : World} {B C : Bxs} (h0 : BX w B W) (h1 : BX W C W') : BX w (C ++ B) W' := by
  have hs := h0.bel.size; refine ⟨h0.bel.trans (h1.bel.mono hs), fun b hb => ?_, fun b hb => ?_, ?_⟩
  · rcases List.mem_append.1 hb with hb | hb
    · exact Nat.le_trans hs (h1.lo b hb)
    · exact h0.lo b hb
  · rcases List.mem_append.1 hb with hb | hb
    · exact h1.bk b hb
    · exact (h0.bk b hb).below h1.bel (h0.bk b hb).lt
  · rw [List.map_append]; refine List.nodup_append.2 ⟨h1.nd, h0.nd, fun a ha b hb e => ?_⟩; obtain ⟨x, hx, rfl⟩ := List.mem_map.1 ha; obtain ⟨y, hy, rfl⟩ := List.mem_map.1 hb; have h2 := h1.lo x hx; have h3 := (h0.bk y hy).lt; omega
theorem run_ne32 {o : Oper} {a : Act} {W : World} {v : VX} {x y : Operand} (ho : o.op = .binOp .neq 32 x y 32) (hx : a.eval x = .agg (vc v).toArray) (hy : a.eval y = .agg (vc v).toArray) : (execOp a.eval o).run Tryz.prog W = .ok (.value (.bool false)) W := by
  unfold execOp; rw [ho]; simp only [hx, hy]; clear ho hx hy
  cases v <;> (simp only [vc]; go_simp)
theorem run_ne32e {o : Oper} {a : Act} {W : World} {v u : VX} {x y : Operand} (e : v = u) (ho : o.op = .binOp .neq 32 x y 32) (hx : a.eval x = .agg (vc v).toArray) (hy : a.eval y = .agg (vc u).toArray) : (execOp a.eval o).run Tryz.prog W = .ok (.value (.bool false)) W := run_ne32 ho hx (by rw [e]; exact hy)
theorem stop_ne {o : Oper} {a : Act} {W : World} {K : Act → World → Prop} {Q : Exit → Act → World → Prop} {ty : TypeId} (x y : Operand) (ho : o.op = .binOp .neq ty x y ty) (h : Hid (o.wp Tryz.prog a W K Q)) : o.wp Tryz.prog a W K Q := h.out
theorem vc_blank_inj {x : VX} (h : (vc x).toArray = (vc .blank).toArray) : x = .blank := by
  have := congrArg (·[0]?) h
  cases x <;> simp [vc] at this ⊢
def EQ (r : VX) (W W' : World) : Prop := W.heap.size ≤ W'.heap.size ∧ ∀ g T cs, Bk W g T cs → Bk W' g T cs ∨ (T = 32 ∧ cs = (vc .blank).toArray ∧ Bk W' g 32 (vc r).toArray)
section
variable {r x y : VX} {W W' : World}
theorem EQ.refl (r : VX) (W : World) : EQ r W W := ⟨Nat.le_refl _, fun _ _ _ h => .inl h⟩
theorem EQ.of_below (h : Below W.heap.size W W') : EQ r W W' := ⟨h.size, fun _ _ _ hb => .inl (hb.below h hb.lt)⟩
theorem EQ.of_store {g : Nat} (h : Bk W g 32 (vc .blank).toArray) (h' : Bk W' g 32 (vc r).toArray) (hK : Keep (fun i => i = g) W W') : EQ r W W' := by
  refine ⟨hK.size, fun g' T cs hb => ?_⟩
  by_cases e : g' = g
  · subst e; obtain ⟨rfl, rfl⟩ := bk_inj hb h; exact .inr ⟨rfl, rfl, h'⟩
  · exact .inl (hK.bk hb e)
def Lk (r x x' : VX) : Prop := x' = x ∨ (x = .blank ∧ x' = r)
def OneQ (r x : VX) (u : Value) (W : World) : Prop := ∃ g x', u = .agg (ac false (some ⟨g, 0, none⟩) 1 1).toArray ∧ Bk W g 32 (vc x').toArray ∧ Lk r x x'
def TwoQ (r x y : VX) (u : Value) (W : World) : Prop := ∃ q g h x' y', u = .slice (some ⟨q, 0, none⟩) 2 2 ∧ Bk W q 55 (ac false (some ⟨g, 0, none⟩) 1 1 ++ ac false (some ⟨h, 0, none⟩) 1 1).toArray ∧ Bk W g 32 (vc x').toArray ∧ Bk W h 32 (vc y').toArray ∧ Lk r x x' ∧ Lk r y y'
theorem lk_keep {g : Nat} {x' : VX} (hE : EQ r W W') (hb : Bk W g 32 (vc x').toArray) (hl : Lk r x x') : ∃ x'', Bk W' g 32 (vc x'').toArray ∧ Lk r x x'' := by
  rcases hE.2 _ _ _ hb with h | ⟨-, hc, h⟩
  · exact ⟨x', h, hl⟩
  · have e := vc_blank_inj hc; subst e
    rcases hl with e | ⟨e, e2⟩
    · exact ⟨r, h, .inr ⟨e.symm, rfl⟩⟩
    · exact ⟨r, h, .inr ⟨e, rfl⟩⟩
theorem oneq_stable : Stable (EQ r) (OneQ r x) := by
  rintro u W W' h ⟨g, x', rfl, hb, hl⟩; obtain ⟨x'', hb', hl'⟩ := lk_keep h hb hl; exact ⟨g, x'', rfl, hb', hl'⟩
theorem twoq_stable : Stable (EQ r) (TwoQ r x y) := by
  rintro u W W' h ⟨q, g, k, x', y', rfl, hq, hx, hy, lx, ly⟩; obtain ⟨x'', hx', lx'⟩ := lk_keep h hx lx; obtain ⟨y'', hy', ly'⟩ := lk_keep h hy ly; refine ⟨q, g, k, x'', y'', rfl, ?_, hx', hy', lx', ly'⟩
  rcases h.2 _ _ _ hq with h | ⟨e, -, -⟩
  · exact h
  · cases e
theorem TwoQ.row {u : Value} (h : TwoQ r x y u W) : ∃ q x' y', u = .slice (some ⟨q, 0, none⟩) 2 2 ∧ Lk r x x' ∧ Lk r y y' ∧ RowF argF W (· < W.heap.size) (some ⟨q, 0, none⟩) 2 [(false, [x']), (false, [y'])] := by
  obtain ⟨q, g, k, x', y', rfl, hq, hx, hy, lx, ly⟩ := h; exact ⟨q, x', y', rfl, lx, ly, row2 hq hx hy⟩
end
theorem lands_bsq {o : Oper} {a : Act} {W : World} {r x y : VX} {p q : Nat} {S : World → Prop} {E : World → World → Prop} {R : Value → World → Prop} (h1 : OneQ r x (a.tmps.getD p undef) W) (h2 : OneQ r y (a.tmps.getD q undef) W) (ho : o.op = .buildSlice 34 2 #[(0, .tmp p), (1, .tmp q)])
    (h : ∀ W' v, Below W.heap.size W W' → TwoQ r x y v W' → R v W' ∧ S W' ∧ E W W') : Lands Tryz.prog S E R W ((execOp a.eval o).run Tryz.prog W) := by
  obtain ⟨ga, x', ea, ha, la⟩ := h1; obtain ⟨gb, y', eb, hb, lb⟩ := h2; have f1 : a.eval (.tmp p) = .agg (ac false (some ⟨ga, 0, none⟩) 1 1).toArray := ea; have f2 : a.eval (.tmp q) = .agg (ac false (some ⟨gb, 0, none⟩) 1 1).toArray := eb; have hbel := bel0 W (.cells (ac false (some ⟨ga, 0, none⟩) 1 1 ++ ac false (some ⟨gb, 0, none⟩) 1 1).toArray 55)
  have hr : (execOp a.eval o).run Tryz.prog W = .ok (.value (.slice (some ⟨W.heap.size, 0, none⟩) 2 2)) (W.alloc (.cells (ac false (some ⟨ga, 0, none⟩) 1 1 ++ ac false (some ⟨gb, 0, none⟩) 1 1).toArray 55)) := by
    unfold execOp; rw [ho]; simp only [List.map_toArray, List.map_cons, List.map_nil, f1, f2]; clear ho f1 f2 ea eb hbel ha hb; simp only [ac]; go_simp
  exact lands_v hr (h _ _ hbel ⟨_, ga, gb, x', y', rfl, Bk.new _ _ _, ha.below hbel ha.lt, hb.below hbel hb.lt, la, lb⟩)
structure SW (w W0 : World) (B : Bxs) (W : World) : Prop where
  bx : BX w B W
  up : Below W0.heap.size W0 W
theorem SW.call {w W0 W W' : World} {B : Bxs} (h : SW w W0 B W) (hb : Below W.heap.size W W') : SW w W0 B W' := ⟨h.bx.call hb, h.up.trans (hb.mono h.up.size)⟩
theorem argv_own {w W : World} {l : List VX} {k nB cB : Nat} {B : Option Addr} (h : W.ownsRow w.heap.size 32 6 (.slice B nB cB) k (l.flatMap vc)) (hl : l.length = k) : nB = k ∧ ArgV W (.agg (ac true B k cB).toArray) (true, l) := by
  have hlen : ∀ (S : List VX), (S.map fun x => (vc x, x)).flatMap (·.1) = S.flatMap vc := fun S => by rw [List.flatMap_map]
  have ho : OwnF valF W (fun _ => False) w.heap.size 32 (.slice B nB cB) l := ⟨l.map fun x => (vc x, x), by rw [List.map_map]; exact List.map_id _, fun p hp => by
    obtain ⟨x, _, rfl⟩ := List.mem_map.1 hp
    rfl, by rw [hlen, hl]; exact h⟩
  obtain ⟨A, c, e, hc, hr⟩ := OwnF.read ho (F' := (· < W.heap.size)) (fun i hi => (ho.lt i hi).2) fun i hi => hi.elim; injection e with e1 e2 e3; subst e1 e2 e3; refine ⟨hl, B, cB, ?_, hc, hr⟩; rw [← hl]
end Go.Proofs.YtngkolcpbgibcaaGreatDoor
