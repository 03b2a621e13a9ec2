/- Reading a front of bytes that are read without fault: plain lists, no program. -/
import Derived.Test.YtpjimppfgmemeaaWriteRecs
import Derived.Test.YtpjimppfgmemeaaJoinsLaw
namespace Go.Proofs.Ytpjimppfgmemeaa

theorem le2_at {b : List UInt8} {d : Nat} (h0 : (firstM b).2.2 = 0) (hd : (firstM b).2.1.length = d) : 4 + d ≤ b.length ∧ ∃ x y, b[2]? = some x ∧ b[3]? = some y ∧ le2 x y = (d : Int) := by
  have hok := firstM_ok h0
  obtain ⟨x0, x1, x2, x3, r, rfl⟩ := four (show 4 ≤ b.length by omega)
  refine ⟨by omega, x2, x3, rfl, rfl, ?_⟩
  have hb := le2_bd x2 x3
  rw [show firstM (x0 :: x1 :: x2 :: x3 :: r) = if 224 < le2 x2 x3 then (0, [], 4) else if (r.length : Int) < le2 x2 x3 then (0, [], 5) else (le2 x0 x1, r.take (le2 x2 x3).toNat, 0) from rfl] at h0 hd
  by_cases h1 : 224 < le2 x2 x3
  · rw [if_pos h1] at h0; cases h0
  by_cases h2 : (r.length : Int) < le2 x2 x3
  · rw [if_neg h1, if_pos h2] at h0; cases h0
  rw [if_neg h1, if_neg h2] at hd
  simp only [List.length_take] at hd
  omega

/-- Of a front that holds the whole part, the same; of a shorter one: cut off. -/
theorem firstM_take {b : List UInt8} {d j : Nat} (h0 : (firstM b).2.2 = 0) (hd : (firstM b).2.1.length = d) : (4 + d ≤ j → firstM (b.take j) = firstM b) ∧ (j < 4 + d → firstM (b.take j) = (0, [], 5)) := by
  have hok := firstM_ok h0
  obtain ⟨x0, x1, x2, x3, r, rfl⟩ := four (show 4 ≤ b.length by omega)
  have hb := le2_bd x2 x3
  have hf : ∀ r, firstM (x0 :: x1 :: x2 :: x3 :: r) = if 224 < le2 x2 x3 then (0, [], 4) else if (r.length : Int) < le2 x2 x3 then (0, [], 5) else (le2 x0 x1, r.take (le2 x2 x3).toNat, 0) := fun _ => rfl
  rw [hf] at h0 hd
  by_cases h1 : 224 < le2 x2 x3
  · rw [if_pos h1] at h0; cases h0
  by_cases h2 : (r.length : Int) < le2 x2 x3
  · rw [if_neg h1, if_pos h2] at h0; cases h0
  rw [if_neg h1, if_neg h2] at hd
  simp only [List.length_take] at hd
  refine ⟨fun hj => ?_, fun hj => ?_⟩
  · obtain ⟨i, rfl⟩ : ∃ i, j = i + 4 := ⟨j - 4, by omega⟩
    rw [show (x0 :: x1 :: x2 :: x3 :: r).take (i + 4) = x0 :: x1 :: x2 :: x3 :: r.take i from rfl, hf, hf, if_neg h1, if_neg h1, if_neg (by rw [List.length_take]; omega), if_neg h2, List.take_take, Nat.min_eq_left (by omega)]
  · rcases Nat.lt_or_ge j 4 with h4 | h4
    · exact firstM_short (by rw [List.length_take]; omega)
    · obtain ⟨i, rfl⟩ : ∃ i, j = i + 4 := ⟨j - 4, by omega⟩
      rw [show (x0 :: x1 :: x2 :: x3 :: r).take (i + 4) = x0 :: x1 :: x2 :: x3 :: r.take i from rfl, hf, if_neg h1, if_pos (by rw [List.length_take]; omega)]

/-- One part of what is read without fault, and of each front of it. -/
theorem read_step {f : Nat} {L X : List RecM} {a : Nat} {b : List UInt8} (hb : b ≠ []) (h : readM (f + 1) L a b = (X, 0, 0)) :
    ∃ (d : Nat) (L2 : List RecM), 4 + d ≤ b.length ∧ (∃ x y, b[2]? = some x ∧ b[3]? = some y ∧ le2 x y = (d : Int)) ∧ readM f L2 (a + (4 + d)) (b.drop (4 + d)) = (X, 0, 0) ∧
      ∀ (g j : Nat), (0 < j → j < 4 + d → readM (g + 1) L a (b.take j) = ([], (a : Int), 5)) ∧ (4 + d ≤ j → readM (g + 1) L a (b.take j) = readM g L2 (a + (4 + d)) ((b.drop (4 + d)).take (j - (4 + d)))) := by
  rw [readM, if_neg hb] at h
  by_cases h0 : (firstM b).2.2 = 0
  · rw [if_neg (by simpa using h0)] at h
    have hl := le2_at h0 rfl
    have ht := fun j => firstM_take (j := j) h0 rfl
    have hne : ∀ j, 0 < j → b.take j ≠ [] := fun j hj e => by
      have := congrArg List.length e
      rw [List.length_take] at this
      have hbl : 0 < b.length := by omega
      simp only [List.length_nil] at this
      omega
    have hshort : ∀ (g j : Nat), 0 < j → j < 4 + (firstM b).2.1.length → readM (g + 1) L a (b.take j) = ([], (a : Int), 5) := fun g j h1 h2 => by
      rw [readM, if_neg (hne j h1), (ht j).2 h2, if_pos (by simp)]
    have hdt : ∀ j, (b.take j).drop (4 + (firstM b).2.1.length) = (b.drop (4 + (firstM b).2.1.length)).take (j - (4 + (firstM b).2.1.length)) := fun j => List.drop_take ..
    by_cases hk : (firstM b).1 = 60
    · rw [if_pos hk] at h
      by_cases hc : contM L (firstM b).2.1.length = 0
      · rw [if_neg (by simpa using hc)] at h
        refine ⟨_, _, hl.1, hl.2, h, fun g j => ⟨hshort g j, fun hj => ?_⟩⟩
        rw [readM, if_neg (hne j (by omega)), (ht j).1 hj, if_neg (by simpa using h0), if_pos hk, if_neg (by simpa using hc), hdt]
      · rw [if_pos hc] at h
        simp only [Prod.mk.injEq] at h
        exact absurd h.2.2 hc
    · rw [if_neg hk] at h
      refine ⟨_, _, hl.1, hl.2, h, fun g j => ⟨hshort g j, fun hj => ?_⟩⟩
      rw [readM, if_neg (hne j (by omega)), (ht j).1 hj, if_neg (by simpa using h0), if_neg hk, hdt]
  · rw [if_pos h0] at h
    simp only [Prod.mk.injEq] at h
    exact absurd h.2.2 h0

/-- Where the walk along the parts stands: 'last', 'begin', which of the ends are at k; what the front of k bytes reads as. -/
structure FrontI (w : List UInt8) (k : Nat) (X : List RecM) (last begin_ : Nat) (hit : Bool) : Prop where
  low : last ≤ w.length
  past : k < last → (hit = true ∧ ∃ M, readAll (w.take k) = (M, 0, 0)) ∨ (hit = false ∧ readAll (w.take k) = ([], (begin_ : Int), 5))
  here : last ≤ k → hit = decide (k = last)
  on_ : ∃ (f : Nat) (L : List RecM), w.length - last < f ∧ readM f L last (w.drop last) = (X, 0, 0) ∧ (last ≤ k → ∃ g, w.length - last < g ∧ readAll (w.take k) = readM g L last ((w.drop last).take (k - last)))

theorem front_start {w : List UInt8} {k : Nat} {X : List RecM} (h : readAll w = (X, 0, 0)) : FrontI w k X 0 0 (decide (k = 0)) := by
  refine ⟨by omega, fun h => by omega, fun _ => rfl, w.length + 1, [], by omega, h, fun _ => ⟨w.length + 1, by omega, ?_⟩⟩
  rw [List.drop_zero, Nat.sub_zero]
  exact readM_fuel _ _ _ _ _ (by omega) (by rw [List.length_take]; omega)

theorem front_next {w : List UInt8} {k last begin_ : Nat} {X : List RecM} {hit : Bool} (h : FrontI w k X last begin_ hit) (hl : last < w.length) :
    ∃ (d : Nat) (x y : UInt8), last + (4 + d) ≤ w.length ∧ w[last + 2]? = some x ∧ w[last + 3]? = some y ∧ le2 x y = (d : Int) ∧ FrontI w k X (last + (4 + d)) (if last ≤ k then last else begin_) (hit || decide (k = last + (4 + d))) := by
  obtain ⟨h1, h2, h3, f, L, hf, hr, hon⟩ := h
  obtain ⟨f, rfl⟩ : ∃ f', f = f' + 1 := ⟨f - 1, by omega⟩
  have hne : w.drop last ≠ [] := fun e => by have := congrArg List.length e; rw [List.length_drop] at this; simp at this; omega
  obtain ⟨d, L2, hd, ⟨x, y, hx, hy, hxy⟩, hr2, hfr⟩ := read_step hne hr
  rw [List.length_drop] at hd
  rw [List.getElem?_drop] at hx hy
  rw [List.drop_drop] at hr2
  refine ⟨d, x, y, by omega, hx, hy, hxy, by omega, fun hk => ?_, fun hk => ?_, f, L2, by omega, hr2, fun hk => ?_⟩
  · rcases Nat.lt_or_ge k last with hkl | hkl
    · have h' := h2 hkl
      rw [if_neg (by omega), show decide (k = last + (4 + d)) = false by simp; omega, Bool.or_false]
      exact h'
    · obtain ⟨g, hg, hra⟩ := hon hkl
      obtain ⟨g, rfl⟩ : ∃ g', g = g' + 1 := ⟨g - 1, by omega⟩
      have h' := h3 hkl
      rw [if_pos hkl, show decide (k = last + (4 + d)) = false by simp; omega, Bool.or_false]
      by_cases hkk : k = last
      · left
        subst hkk
        refine ⟨by rw [h']; simp, L, ?_⟩
        rw [hra, Nat.sub_self, List.take_zero]
        rfl
      · right
        refine ⟨by rw [h']; simpa using hkk, ?_⟩
        rw [hra]
        exact (hfr g (k - last)).1 (by omega) (by omega)
  · have h' := h3 (by omega)
    rw [h', show decide (k = last) = false by simp; omega, Bool.false_or]
  · obtain ⟨g, hg, hra⟩ := hon (by omega)
    obtain ⟨g, rfl⟩ : ∃ g', g = g' + 1 := ⟨g - 1, by omega⟩
    refine ⟨g, by omega, ?_⟩
    rw [hra, (hfr g (k - last)).2 (by omega), List.drop_drop, show k - last - (4 + d) = k - (last + (4 + d)) by omega]

/-- At the end. -/
theorem front_end {w : List UInt8} {k begin_ : Nat} {X : List RecM} {hit : Bool} (h : FrontI w k X w.length begin_ hit) (hk : k ≤ w.length) :
    (hit = true ∧ ∃ M, readAll (w.take k) = (M, 0, 0) ∧ (k = w.length → M = X)) ∨ (hit = false ∧ readAll (w.take k) = ([], (begin_ : Int), 5)) := by
  obtain ⟨h1, h2, h3, f, L, hf, hr, hon⟩ := h
  rcases Nat.lt_or_ge k w.length with hkl | hkl
  · rcases h2 hkl with ⟨a, M, b⟩ | b
    · exact .inl ⟨a, M, b, fun e => by omega⟩
    · exact .inr b
  · obtain rfl : k = w.length := by omega
    obtain ⟨g, hg, hra⟩ := hon hkl
    obtain ⟨f, rfl⟩ : ∃ f', f = f' + 1 := ⟨f - 1, by omega⟩
    obtain ⟨g, rfl⟩ : ∃ g', g = g' + 1 := ⟨g - 1, by omega⟩
    rw [List.drop_eq_nil_of_le (Nat.le_refl _)] at hr hra
    refine .inl ⟨by rw [h3 hkl]; simp, L, by rw [hra, List.take_nil]; rfl, fun _ => ?_⟩
    rw [readM, if_pos rfl] at hr
    simpa using hr
end Go.Proofs.Ytpjimppfgmemeaa
