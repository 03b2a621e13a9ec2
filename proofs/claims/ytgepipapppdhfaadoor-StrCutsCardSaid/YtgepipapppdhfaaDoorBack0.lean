/- What is put is read as it was, plainly. No condition; no model's run. -/
import Derived.Test.YtgepipapppdhfaaDoorGet
namespace Go.Proofs.YtgepipapppdhfaaDoor
open Go.Lib

/-- What Put adds for a text. -/
def pb (l : List UInt8) : List UInt8 := b2 (unN l) ++ (if narB l = true then 0 :: narBytes (rns l) else 1 :: wideBytes (unis l))
theorem putL_ok {b l : List UInt8} (h : uE l = 0) : putL b l = b ++ pb l := by
  unfold putL pb
  rw [if_pos h, List.append_assoc]

theorem jn_unis : ∀ rs : List Int, (∀ r ∈ rs, okR r) → jn (rs.flatMap uni) = some (rs.flatMap encodeRune)
  | [], _ => rfl
  | r :: rs, h => by
    obtain ⟨h0, h1, h2⟩ := h r (.head _)
    have ih := jn_unis rs fun x hx => h x (.tail _ hx)
    rw [List.flatMap_cons, List.flatMap_cons]
    by_cases hb : r < 65536
    · have e : uni r = [r] := by unfold uni; rw [if_pos hb]
      have n1 : hiB r = false := by unfold hiB; rw [decide_eq_false]; omega
      have n2 : loB r = false := by unfold loB; rw [decide_eq_false]; omega
      rw [e, List.singleton_append]
      cases hr : rs.flatMap uni with
      | nil =>
        rw [hr] at ih
        simp only [jn, Option.some.injEq] at ih
        rw [jn, if_neg (by rw [n1, n2]; decide), ← ih, List.append_nil]
      | cons u us =>
        rw [hr] at ih
        rw [jn, if_neg (by rw [n1]; simp), if_neg (by rw [n1, n2]; decide), ih]
        rfl
    · have e : uni r = [55296 + (r - 65536) / 1024, 56320 + r % 1024] := by unfold uni; rw [if_neg hb]
      have n1 : hiB (55296 + (r - 65536) / 1024) = true := by unfold hiB; rw [decide_eq_true]; omega
      have n2 : loB (56320 + r % 1024) = true := by unfold loB; rw [decide_eq_true]; omega
      rw [e]
      show jn (_ :: _ :: rs.flatMap uni) = _
      rw [jn, if_pos (by rw [n1, n2]; rfl), ih, show 65536 + ((55296 + (r - 65536) / 1024) % 1024 * 1024 + (56320 + r % 1024) % 1024) = r by omega]
      rfl
theorem jn_text {l : List UInt8} (h : validD l = true) : jn (unis l) = some l := by
  unfold unis
  rw [jn_unis _ (runes_ok h), enc_back h]

theorem uni_bd {r : Int} (h : okR r) : ∀ u ∈ uni r, 0 ≤ u ∧ u ≤ 65535 := by
  obtain ⟨h0, h1, h2⟩ := h
  intro u hu
  unfold uni at hu
  by_cases hb : r < 65536
  · rw [if_pos hb] at hu; simp at hu; omega
  · rw [if_neg hb] at hu; simp at hu; omega
theorem unis_bd {l : List UInt8} (h : validD l = true) : ∀ u ∈ unis l, 0 ≤ u ∧ u ≤ 65535 := by
  intro u hu
  obtain ⟨r, hr, hu⟩ := List.mem_flatMap.1 hu
  exact uni_bd (runes_ok h r hr) u hu
theorem flat_small : ∀ rs : List Int, (∀ r ∈ rs, r < 256) → rs.flatMap uni = rs
  | [], _ => rfl
  | r :: rs, h => by
    have := h r (.head _)
    rw [List.flatMap_cons, flat_small rs fun x hx => h x (.tail _ hx), show uni r = [r] by unfold uni; rw [if_pos (by omega)]]
    rfl
theorem unis_nar {l : List UInt8} (h : narB l = true) : unis l = rns l := by
  unfold unis
  unfold narB at h
  exact flat_small _ fun r hr => by have := List.all_eq_true.1 h r hr; simpa using this
theorem rns_nar {l : List UInt8} (hv : validD l = true) (h : narB l = true) : ∀ r ∈ rns l, 0 ≤ r ∧ r < 256 := fun r hr => by
  unfold narB at h
  have h1 := List.all_eq_true.1 h r hr
  exact ⟨(runes_ok hv r hr).1, by simpa using h1⟩

theorem by8_nat {u : Int} (h : 0 ≤ u) : ((by8 u).toNat : Int) = u % 256 := by
  have h0 := Int.emod_nonneg u (show (256 : Int) ≠ 0 by omega)
  have h1 := Int.emod_lt_of_pos u (show (0 : Int) < 256 by omega)
  unfold by8
  rw [UInt8.toNat_ofNat', Nat.mod_eq_of_lt (by omega)]
  omega
theorem getD_mid (p q : List UInt8) (x : UInt8) : (p ++ x :: q).getD p.length 0 = x := by simp [List.getD_eq_getElem?_getD]
theorem getD_mid1 (p q : List UInt8) (x y : UInt8) : (p ++ x :: y :: q).getD (p.length + 1) 0 = y := by
  simp [List.getD_eq_getElem?_getD]

theorem rdA_nil (l : List UInt8) (fl at_ : Nat) : rdA l [] fl at_ = (fl, at_, 0) := by unfold rdA; rfl

theorem rdU1_nar (p q : List UInt8) {cs : List Int} {u : Int} (h0 : 0 ≤ u) (h1 : u < 256) : rdU1 (p ++ by8 u :: q) cs 0 p.length = (u.toNat, p.length + 1, 0) := by
  unfold rdU1
  rw [if_pos rfl, if_pos (by simp), getD_mid]
  have := by8_nat h0
  refine Prod.ext ?_ rfl
  simp only
  omega
theorem rdU1_wide (p q : List UInt8) {cs : List Int} {u : Int} (h0 : 0 ≤ u) (h1 : u ≤ 65535) (hc : cs.contains ((p.length : Int) + 1) = false) : rdU1 (p ++ by8 u :: by8 (u / 256) :: q) cs 1 p.length = (u.toNat, p.length + 2, 0) := by
  unfold rdU1
  rw [if_neg (by decide), if_pos (by simp), if_neg (by rw [hc]; decide), getD_mid, getD_mid1]
  have e1 := by8_nat h0
  have e2 := by8_nat (show 0 ≤ u / 256 by omega)
  refine Prod.ext ?_ rfl
  simp only
  omega

theorem rdUs_nar : ∀ (us : List Int) (p q : List UInt8), (∀ u ∈ us, 0 ≤ u ∧ u < 256) → rdUs (p ++ (us.map by8 ++ q)) [] us.length 0 p.length = (us, p.length + us.length, 0)
  | [], p, q, _ => rfl
  | u :: us, p, q, h => by
    obtain ⟨h0, h1⟩ := h u (.head _)
    have ih := rdUs_nar us (p ++ [by8 u]) q fun x hx => h x (.tail _ hx)
    rw [List.length_append, List.length_singleton, List.append_assoc, List.singleton_append] at ih
    rw [List.length_cons, rdUs, rdA_nil]
    simp only
    rw [List.map_cons, List.cons_append, rdU1_nar p _ h0 h1]
    simp only [↓reduceIte]
    rw [ih]
    refine Prod.ext ?_ (Prod.ext ?_ rfl)
    · simp only [List.cons.injEq, and_true]; omega
    · simp only; omega
theorem rdUs_wide : ∀ (us : List Int) (p q : List UInt8), (∀ u ∈ us, 0 ≤ u ∧ u ≤ 65535) → rdUs (p ++ (wideBytes us ++ q)) [] us.length 1 p.length = (us, p.length + 2 * us.length, 0)
  | [], p, q, _ => rfl
  | u :: us, p, q, h => by
    obtain ⟨h0, h1⟩ := h u (.head _)
    have ih := rdUs_wide us (p ++ [by8 u, by8 (u / 256)]) q fun x hx => h x (.tail _ hx)
    have e : p ++ (wideBytes (u :: us) ++ q) = p ++ by8 u :: by8 (u / 256) :: (wideBytes us ++ q) := by simp [wideBytes, b2]
    rw [List.append_assoc, show (p ++ [by8 u, by8 (u / 256)]).length = p.length + 2 by simp] at ih
    rw [List.length_cons, rdUs, rdA_nil]
    simp only
    rw [e, rdU1_wide p _ h0 h1 rfl]
    simp only [↓reduceIte]
    have e2 : p ++ by8 u :: by8 (u / 256) :: (wideBytes us ++ q) = p ++ ([by8 u, by8 (u / 256)] ++ (wideBytes us ++ q)) := rfl
    rw [e2, ih]
    refine Prod.ext ?_ (Prod.ext ?_ rfl)
    · simp only [List.cons.injEq, and_true]; omega
    · simp only; omega

theorem pb_len {l : List UInt8} (h : uE l = 0) : szV l = ((pb l).length : Int) := by
  unfold szV pb
  rw [if_pos h]
  by_cases hn : narB l = true
  · rw [if_pos hn, if_pos hn]
    have : unN l = (rns l).length := by unfold unN; rw [unis_nar hn]
    simp [b2, narBytes]
    omega
  · rw [if_neg hn, if_neg hn]
    have : (wideBytes (unis l)).length = 2 * unN l := by
      unfold wideBytes unN
      generalize unis l = us
      induction us with
      | nil => rfl
      | cons u us ih => simp only [List.flatMap_cons, List.length_append, ih, b2, List.length_cons, List.length_nil]; omega
    simp [b2, this]
    omega

/-- A text that was put is read as it was, wherever it stands. -/
theorem rdS_back (p q l : List UInt8) (h : uE l = 0) : rdS (p ++ (pb l ++ q)) [] p.length = (l, p.length + (pb l).length, 0) := by
  obtain ⟨hv, hN⟩ := uE_valid h
  have hlen : (pb l).length = 2 + (if narB l = true then 1 + unN l else 1 + 2 * unN l) := by
    have h1 := pb_len h
    unfold szV at h1
    rw [if_pos h] at h1
    by_cases hn : narB l = true
    · rw [if_pos hn] at h1 ⊢; omega
    · rw [if_neg hn] at h1 ⊢; omega
  have e1 := by8_nat (show (0 : Int) ≤ (unN l : Int) by omega)
  have e2 := by8_nat (show (0 : Int) ≤ (unN l : Int) / 256 by omega)
  have hall : rdAll (p ++ (pb l ++ q)) [] p.length = (unis l, p.length + (pb l).length, 0) := by
    unfold rdAll
    rw [if_pos (by simp only [List.length_append]; omega)]
    have hk : ((p ++ (pb l ++ q)).getD p.length 0).toNat + 256 * ((p ++ (pb l ++ q)).getD (p.length + 1) 0).toNat = unN l := by
      unfold pb b2
      rw [List.append_assoc, List.cons_append, List.cons_append, List.nil_append, getD_mid, getD_mid1]
      omega
    rw [hk, if_neg (by omega)]
    by_cases hn : narB l = true
    · have ep : p ++ (pb l ++ q) = (p ++ b2 (unN l)) ++ (0 :: (narBytes (rns l) ++ q)) := by unfold pb; rw [if_pos hn]; simp
      have hf : rdF (p ++ (pb l ++ q)) (p.length + 2) = (0, p.length + 3, 0) := by
        have hl2 : (p ++ b2 (unN l)).length = p.length + 2 := by simp [b2]
        unfold rdF
        rw [ep, ← hl2, getD_mid, if_pos (by simp), if_pos (by decide)]
        refine Prod.ext (by rfl) (Prod.ext ?_ rfl)
        simp only
        omega
      rw [hf, if_pos rfl]
      have ep2 : p ++ (pb l ++ q) = (p ++ b2 (unN l) ++ [0]) ++ ((rns l).map by8 ++ q) := by rw [ep]; simp [narBytes]
      have hu := rdUs_nar (rns l) (p ++ b2 (unN l) ++ [0]) q (rns_nar hv hn)
      rw [← ep2, show (p ++ b2 (unN l : Int) ++ [0] : List UInt8).length = p.length + 3 from by simp [b2], ← unis_nar hn] at hu
      show rdUs _ _ (unN l) 0 (p.length + 3) = _
      rw [show unN l = (unis l).length from rfl, hu, hlen, if_pos hn]
      refine Prod.ext rfl (Prod.ext ?_ rfl)
      simp only
      unfold unN
      omega
    · have ep : p ++ (pb l ++ q) = (p ++ b2 (unN l)) ++ (1 :: (wideBytes (unis l) ++ q)) := by unfold pb; rw [if_neg hn]; simp
      have hf : rdF (p ++ (pb l ++ q)) (p.length + 2) = (1, p.length + 3, 0) := by
        have hl2 : (p ++ b2 (unN l)).length = p.length + 2 := by simp [b2]
        unfold rdF
        rw [ep, ← hl2, getD_mid, if_pos (by simp), if_pos (by decide)]
        refine Prod.ext (by rfl) (Prod.ext ?_ rfl)
        simp only
        omega
      rw [hf, if_pos rfl]
      have ep2 : p ++ (pb l ++ q) = (p ++ b2 (unN l) ++ [1]) ++ (wideBytes (unis l) ++ q) := by rw [ep]; simp
      have hu := rdUs_wide (unis l) (p ++ b2 (unN l) ++ [1]) q (unis_bd hv)
      rw [← ep2, show (p ++ b2 (unN l : Int) ++ [1] : List UInt8).length = p.length + 3 from by simp [b2]] at hu
      show rdUs _ _ (unN l) 1 (p.length + 3) = _
      rw [show unN l = (unis l).length from rfl, hu, hlen, if_neg hn]
      refine Prod.ext rfl (Prod.ext ?_ rfl)
      simp only
      unfold unN
      omega
  unfold rdS
  rw [hall, if_pos rfl, jn_text hv]
  rfl
end Go.Proofs.YtgepipapppdhfaaDoor
