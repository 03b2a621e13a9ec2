/- However a text is cut it is read as it was, plainly. No condition; no model's run. -/
import Derived.Test.YtgepipapppdhfaaDoorBack0
namespace Go.Proofs.YtgepipapppdhfaaDoor
open Go.Lib

def cutB (zs : List UInt8) (k : Nat) : Bool := zs.any fun x => x.toNat == k
/-- A unit in bytes. -/
def ub (fl : Nat) (u : Int) : List UInt8 := if fl = 0 then [by8 u] else [by8 u, by8 (u / 256)]
def fitU (fl : Nat) (u : Int) : Prop := 0 ≤ u ∧ u ≤ 65535 ∧ (fl = 0 → u < 256)

def Pre (us : List Int) (w0 : Nat) (b : List UInt8) (cs : List Int) (i fl : Nat) : Prop :=
  ∀ (q : List UInt8) (ds : List Int) (m : Nat), (∀ x ∈ ds, (b.length : Int) ≤ x) →
    rdUs (b ++ q) (cs ++ ds) (i + m) w0 3 = (us.take i ++ (rdUs (b ++ q) (cs ++ ds) m fl b.length).1, (rdUs (b ++ q) (cs ++ ds) m fl b.length).2)

theorem contains_no {l : List Int} {x : Int} (h : ∀ y ∈ l, y ≠ x) : l.contains x = false := by
  rw [Bool.eq_false_iff]
  intro hc
  have := List.contains_iff_mem.1 hc
  exact h x this rfl

theorem rdU1_ub (p q : List UInt8) {cs : List Int} {fl : Nat} {u : Int} (hf : fl ≤ 1) (hu : fitU fl u) (hc : cs.contains ((p.length : Int) + 1) = false) :
    rdU1 (p ++ (ub fl u ++ q)) cs fl p.length = (u.toNat, p.length + (ub fl u).length, 0) := by
  obtain ⟨h0, h1, h2⟩ := hu
  have hfl : fl = 0 ∨ fl = 1 := by omega
  rcases hfl with rfl | rfl
  · unfold ub
    rw [if_pos rfl, List.singleton_append, rdU1_nar p q h0 (h2 rfl)]
    rfl
  · unfold ub
    rw [if_neg (by decide)]
    show rdU1 (p ++ by8 u :: by8 (u / 256) :: q) cs 1 p.length = _
    rw [rdU1_wide p q h0 h1 hc]
    rfl
theorem ub_len (fl : Nat) (u : Int) : 1 ≤ (ub fl u).length ∧ (ub fl u).length ≤ 2 := by
  unfold ub
  split <;> simp

theorem take_one {us : List Int} {i : Nat} {u : Int} (h : us[i]? = some u) : us.take (i + 1) = us.take i ++ [u] := by
  have hi := (List.getElem?_eq_some_iff.1 h).1
  rw [← List.take_append_getElem hi]
  rw [List.getElem?_eq_getElem hi] at h
  injection h with h
  rw [h]

theorem Pre.next {us : List Int} {w0 : Nat} {b : List UInt8} {cs : List Int} {i fl : Nat} {u : Int} (h : Pre us w0 b cs i fl) (hcs : ∀ x ∈ cs, x < (b.length : Int)) (hui : us[i]? = some u) (hf : fl ≤ 1) (hu : fitU fl u) :
    Pre us w0 (b ++ ub fl u) cs (i + 1) fl := by
  intro q ds m hds
  have hl := ub_len fl u
  have hds2 : ∀ x ∈ ds, (b.length : Int) + ((ub fl u).length : Int) ≤ x := fun x hx => by
    have := hds x hx
    rw [List.length_append] at this
    omega
  have hP := h (ub fl u ++ q) ds (m + 1) (fun x hx => by have := hds2 x hx; omega)
  have hA : rdA (b ++ (ub fl u ++ q)) (cs ++ ds) fl b.length = (fl, b.length, 0) := by
    unfold rdA
    rw [if_neg]
    rw [contains_no fun y hy => by
      rcases List.mem_append.1 hy with hy | hy
      · have := hcs y hy; omega
      · have := hds2 y hy; omega]
    decide
  have hc : (cs ++ ds).contains ((b.length : Int) + 1) = false ∨ fl = 0 := by
    by_cases h0 : fl = 0
    · exact .inr h0
    · left
      have hl2 : (ub fl u).length = 2 := by unfold ub; rw [if_neg h0]; rfl
      refine contains_no fun y hy => ?_
      rcases List.mem_append.1 hy with hy | hy
      · have := hcs y hy; omega
      · have := hds2 y hy; omega
  have hU : rdU1 (b ++ (ub fl u ++ q)) (cs ++ ds) fl b.length = (u.toNat, b.length + (ub fl u).length, 0) := by
    rcases hc with hc | rfl
    · exact rdU1_ub b q hf hu hc
    · unfold ub
      rw [if_pos rfl, List.singleton_append, rdU1_nar b q hu.1 (hu.2.2 rfl)]
      rfl
  rw [rdUs, hA] at hP
  simp only at hP
  rw [hU] at hP
  simp only [↓reduceIte] at hP
  rw [List.append_assoc, List.length_append, take_one hui, show i + 1 + m = i + (m + 1) by omega, hP]
  have e : ((u.toNat : Nat) : Int) = u := by have := hu.1; omega
  rw [e, List.append_assoc]
  rfl

theorem Pre.cut {us : List Int} {w0 : Nat} {b : List UInt8} {cs : List Int} {i fl w : Nat} {u : Int} (h : Pre us w0 b cs i fl) (hcs : ∀ x ∈ cs, x < (b.length : Int)) (hui : us[i]? = some u) (hf : w ≤ 1) (hu : fitU w u) :
    Pre us w0 (b ++ [UInt8.ofNat w] ++ ub w u) (cs ++ [(b.length : Int)]) (i + 1) w := by
  intro q ds m hds
  have hl := ub_len w u
  have hds2 : ∀ x ∈ ds, (b.length : Int) + 1 + ((ub w u).length : Int) ≤ x := fun x hx => by
    have := hds x hx
    rw [List.length_append, List.length_append, List.length_singleton] at this
    omega
  have hP := h ([UInt8.ofNat w] ++ (ub w u ++ q)) ((b.length : Int) :: ds) (m + 1) (fun x hx => by
    rcases List.mem_cons.1 hx with rfl | hx
    · omega
    · have := hds2 x hx; omega)
  have hwb : (UInt8.ofNat w).toNat = w := by rw [UInt8.toNat_ofNat', Nat.mod_eq_of_lt (by omega)]
  have hA : rdA (b ++ ([UInt8.ofNat w] ++ (ub w u ++ q))) (cs ++ (b.length : Int) :: ds) fl b.length = (w, b.length + 1, 0) := by
    unfold rdA
    rw [if_pos (by rw [List.contains_iff_mem]; simp)]
    unfold rdF
    rw [if_pos (by simp), List.singleton_append, getD_mid, hwb, if_pos hf]
  have hl1 : (b ++ [UInt8.ofNat w]).length = b.length + 1 := by simp
  have hU : rdU1 (b ++ ([UInt8.ofNat w] ++ (ub w u ++ q))) (cs ++ (b.length : Int) :: ds) w (b.length + 1) = (u.toNat, b.length + 1 + (ub w u).length, 0) := by
    rw [← List.append_assoc, ← hl1]
    by_cases h0 : w = 0
    · subst h0
      unfold ub
      rw [if_pos rfl, List.singleton_append, rdU1_nar _ q hu.1 (hu.2.2 rfl)]
      rfl
    · refine rdU1_ub _ q hf hu ?_
      have hl2 : (ub w u).length = 2 := by unfold ub; rw [if_neg h0]; rfl
      rw [hl1]
      refine contains_no fun y hy => ?_
      rcases List.mem_append.1 hy with hy | hy
      · have := hcs y hy; omega
      · rcases List.mem_cons.1 hy with rfl | hy
        · omega
        · have := hds2 y hy; omega
  rw [rdUs, hA] at hP
  simp only at hP
  rw [hU] at hP
  simp only [↓reduceIte] at hP
  have e1 : b ++ [UInt8.ofNat w] ++ ub w u ++ q = b ++ ([UInt8.ofNat w] ++ (ub w u ++ q)) := by simp
  have e2 : cs ++ [(b.length : Int)] ++ ds = cs ++ (b.length : Int) :: ds := by simp
  have e3 : (b ++ [UInt8.ofNat w] ++ ub w u).length = b.length + 1 + (ub w u).length := by simp; omega
  rw [e1, e2, e3, take_one hui, show i + 1 + m = i + (m + 1) by omega, hP]
  have e : ((u.toNat : Nat) : Int) = u := by have := hu.1; omega
  rw [e, List.append_assoc]
  rfl

/-- What holds as i units are written. -/
structure St (us : List Int) (zs : List UInt8) (i : Nat) (b : List UInt8) (cs : List Int) (w : Nat) : Prop where
  head : ∃ w0 t, w0 ≤ 1 ∧ b = b2 (us.length : Int) ++ UInt8.ofNat w0 :: t ∧ Pre us w0 b cs i w
  wle : w ≤ 1
  low : ∀ x ∈ cs, x + 2 ≤ (b.length : Int)
  apart : cs.Pairwise fun x y => x + 2 ≤ y
  seg : w = 0 → ∀ k, i ≤ k → (∀ j, i ≤ j → j ≤ k → cutB zs j = false) → ∀ u, us[k]? = some u → u < 256
/-- What the flags of a part from unit i on have to meet. -/
def Wid (us : List Int) (zs : List UInt8) (i w : Nat) : Prop := w ≤ 1 ∧ (w = 0 → ∀ k, i ≤ k → (∀ j, i < j → j ≤ k → cutB zs j = false) → ∀ u, us[k]? = some u → u < 256)

variable {us : List Int} {zs : List UInt8} {b : List UInt8} {cs : List Int} {i w w' : Nat} {u : Int}

theorem Wid.fit (h : Wid us zs i w) (hui : us[i]? = some u) (hu : 0 ≤ u ∧ u ≤ 65535) : fitU w u :=
  ⟨hu.1, hu.2, fun h0 => h.2 h0 i (Nat.le_refl _) (fun j h1 h2 => by omega) u hui⟩

theorem St.first (h : Wid us zs 0 w) (hui : us[0]? = some u) (hu : 0 ≤ u ∧ u ≤ 65535) : St us zs 1 (b2 (us.length : Int) ++ [UInt8.ofNat w] ++ ub w u) [] w := by
  have hb : (b2 (us.length : Int) ++ [UInt8.ofNat w]).length = 3 := by simp [b2]
  have hP : Pre us w (b2 (us.length : Int) ++ [UInt8.ofNat w]) [] 0 w := by
    intro q ds m hds
    rw [hb]
    simp
  refine ⟨⟨w, ub w u, h.1, by simp, hP.next (fun x hx => by cases hx) hui h.1 (h.fit hui hu)⟩, h.1, fun x hx => (by cases hx), .nil, fun h0 k hk hc => h.2 h0 k (by omega) fun j h1 h2 => hc j (by omega) h2⟩
theorem St.next (h : St us zs i b cs w) (hc : cutB zs i = false) (hui : us[i]? = some u) (hu : 0 ≤ u ∧ u ≤ 65535) : St us zs (i + 1) (b ++ ub w u) cs w := by
  obtain ⟨w0, t, h1, h2, h3⟩ := h.head
  have hl := ub_len w u
  have hf : fitU w u := ⟨hu.1, hu.2, fun h0 => h.seg h0 i (Nat.le_refl _) (fun j h1 h2 => by
    obtain rfl : j = i := by omega
    exact hc) u hui⟩
  refine ⟨⟨w0, t ++ ub w u, h1, by rw [h2]; simp, h3.next (fun x hx => by have := h.low x hx; omega) hui h.wle hf⟩, h.wle, fun x hx => ?_, h.apart, fun h0 k hk hcc => h.seg h0 k (by omega) fun j hj1 hj2 => ?_⟩
  · have := h.low x hx
    rw [List.length_append]
    omega
  · by_cases hj : j = i
    · subst hj; exact hc
    · exact hcc j (by omega) hj2
theorem St.cut (h : St us zs i b cs w) (hw : Wid us zs i w') (hui : us[i]? = some u) (hu : 0 ≤ u ∧ u ≤ 65535) : St us zs (i + 1) (b ++ [UInt8.ofNat w'] ++ ub w' u) (cs ++ [(b.length : Int)]) w' := by
  obtain ⟨w0, t, h1, h2, h3⟩ := h.head
  have hl := ub_len w' u
  refine ⟨⟨w0, t ++ [UInt8.ofNat w'] ++ ub w' u, h1, by rw [h2]; simp, h3.cut (fun x hx => by have := h.low x hx; omega) hui hw.1 (hw.fit hui hu)⟩, hw.1, fun x hx => ?_, ?_, fun h0 k hk hcc => hw.2 h0 k (by omega) fun j hj1 hj2 => hcc j (by omega) hj2⟩
  · rw [List.length_append, List.length_append, List.length_singleton]
    rcases List.mem_append.1 hx with hx | hx
    · have := h.low x hx; omega
    · simp at hx; omega
  · rw [List.pairwise_append]
    refine ⟨h.apart, by simp, fun x hx y hy => ?_⟩
    simp at hy
    have := h.low x hx
    omega

theorem apart_two : ∀ {l : List Int}, (l.Pairwise fun x y => x + 2 ≤ y) → ∀ x ∈ l, ∀ y ∈ l, y ≠ x + 1
  | [], _, x, hx, _, _ => by cases hx
  | a :: l, h, x, hx, y, hy => by
    rw [List.pairwise_cons] at h
    rcases List.mem_cons.1 hx with e | hx'
    · rcases List.mem_cons.1 hy with e' | hy'
      · omega
      · have := h.1 _ hy'; omega
    · rcases List.mem_cons.1 hy with e' | hy'
      · have := h.1 _ hx'; omega
      · exact apart_two h.2 x hx' y hy'
theorem apart_no {l : List Int} (h : l.Pairwise fun x y => x + 2 ≤ y) : ∀ x : Int, l.contains x = true → l.contains (x + 1) = false := by
  intro x hx
  have hx := List.contains_iff_mem.1 hx
  exact contains_no fun y hy => apart_two h x hx y hy
theorem apart_up {l : List Int} (h : l.Pairwise fun x y => x + 2 ≤ y) : l.Pairwise (· ≤ ·) := h.imp fun h => by omega

/-- All that was written is read as it was. -/
theorem all_back {l : List UInt8} {w0 : Nat} {t : List UInt8} (hv : validD l = true) (hN : unN l ≤ 1000) (hw0 : w0 ≤ 1) (hb : b = b2 (unN l : Int) ++ UInt8.ofNat w0 :: t) (hP : Pre (unis l) w0 b cs (unN l) w) : rdS (b ++ [7]) cs 0 = (l, b.length, 0) := by
  have e1 := by8_nat (show (0 : Int) ≤ (unN l : Int) by omega)
  have e2 := by8_nat (show (0 : Int) ≤ (unN l : Int) / 256 by omega)
  have hwb : (UInt8.ofNat w0).toNat = w0 := by rw [UInt8.toNat_ofNat', Nat.mod_eq_of_lt (by omega)]
  have hP0 := hP [7] [] 0 (fun x hx => by cases hx)
  rw [Nat.add_zero, List.append_nil, rdUs, List.append_nil, show (unis l).take (unN l) = unis l from List.take_of_length_le (Nat.le_refl _)] at hP0
  have hall : rdAll (b ++ [7]) cs 0 = (unis l, b.length, 0) := by
    have g0 : (b ++ [7]).getD 0 0 = by8 (unN l) := by rw [hb]; rfl
    have g1 : (b ++ [7]).getD 1 0 = by8 ((unN l : Int) / 256) := by rw [hb]; rfl
    have g2 : (b ++ [7]).getD 2 0 = UInt8.ofNat w0 := by rw [hb]; rfl
    have hl3 : 3 < (b ++ [7]).length := by rw [hb]; simp [b2]
    unfold rdAll
    rw [if_pos (by omega)]
    simp only [Nat.zero_add]
    rw [g0, g1, show (by8 (unN l)).toNat + 256 * (by8 ((unN l : Int) / 256)).toNat = unN l by omega, if_neg (by omega)]
    have hf : rdF (b ++ [7]) 2 = (w0, 3, 0) := by
      unfold rdF
      rw [if_pos (by omega), g2, hwb, if_pos hw0]
    rw [hf, if_pos rfl]
    exact hP0
  unfold rdS
  rw [hall, if_pos rfl, jn_text hv]
  rfl
end Go.Proofs.YtgepipapppdhfaaDoor
