/- What is put is read as it was, plainly. No condition; no model's run. -/
/- However a text is cut it is read as it was, plainly. No condition; no model's run. -/
/- The table's bytes, cut as the document has it, and each text read back from them: plainly. No condition; no model's run. -/
/- Each text of the table's bytes is read as it was, however the bytes go on; where cuts that no unit stands at are other ones, too: plainly. No condition; no model's run. -/
/- The whole table's texts read one by one, also where other cuts stand ahead of texts; the record that is made keeps to chapter 1's bounds: plainly. No condition; no model's run. -/
import Derived.Test.YtllcecnkbndokaaGreatDoorGet
namespace Go.Proofs.YtllcecnkbndokaaGreatDoor
open Go.Lib

/-- What Put adds for a text. -/
def pb (l : List UInt8) : List UInt8 := b2 (unN l) ++ (if narB l = true then 0 :: narBytes (rns l) else 1 :: wideBytes (unis l))
theorem putL_ok {b l : List UInt8} (h : uE l = 0) : putL b l = b ++ pb l := by
  unfold putL pb
  rw [if_pos h, List.append_assoc]

theorem jn_unis : ∀ rs : List Int, (∀ r ∈ rs, okR r) → jn (rs.flatMap uni) = some (rs.flatMap encodeRune)
  | [], _ => rfl
  | r :: rs, h => by
    obtain ⟨h0, h1, h2⟩ := h r (.head _)
    have ih := jn_unis rs fun x hx => h x (.tail _ hx)
    rw [List.flatMap_cons, List.flatMap_cons]
    by_cases hb : r < 65536
    · have e : uni r = [r] := by unfold uni; rw [if_pos hb]
      have n1 : hiB r = false := by unfold hiB; rw [decide_eq_false]; omega
      have n2 : loB r = false := by unfold loB; rw [decide_eq_false]; omega
      rw [e, List.singleton_append]
      cases hr : rs.flatMap uni with
      | nil =>
        rw [hr] at ih
        simp only [jn, Option.some.injEq] at ih
        rw [jn, if_neg (by rw [n1, n2]; decide), ← ih, List.append_nil]
      | cons u us =>
        rw [hr] at ih
        rw [jn, if_neg (by rw [n1]; simp), if_neg (by rw [n1, n2]; decide), ih]
        rfl
    · have e : uni r = [55296 + (r - 65536) / 1024, 56320 + r % 1024] := by unfold uni; rw [if_neg hb]
      have n1 : hiB (55296 + (r - 65536) / 1024) = true := by unfold hiB; rw [decide_eq_true]; omega
      have n2 : loB (56320 + r % 1024) = true := by unfold loB; rw [decide_eq_true]; omega
      rw [e]
      show jn (_ :: _ :: rs.flatMap uni) = _
      rw [jn, if_pos (by rw [n1, n2]; rfl), ih, show 65536 + ((55296 + (r - 65536) / 1024) % 1024 * 1024 + (56320 + r % 1024) % 1024) = r by omega]
      rfl
theorem jn_text {l : List UInt8} (h : validD l = true) : jn (unis l) = some l := by
  unfold unis
  rw [jn_unis _ (runes_ok h), enc_back h]

theorem uni_bd {r : Int} (h : okR r) : ∀ u ∈ uni r, 0 ≤ u ∧ u ≤ 65535 := by
  obtain ⟨h0, h1, h2⟩ := h
  intro u hu
  unfold uni at hu
  by_cases hb : r < 65536
  · rw [if_pos hb] at hu; simp at hu; omega
  · rw [if_neg hb] at hu; simp at hu; omega
theorem unis_bd {l : List UInt8} (h : validD l = true) : ∀ u ∈ unis l, 0 ≤ u ∧ u ≤ 65535 := by
  intro u hu
  obtain ⟨r, hr, hu⟩ := List.mem_flatMap.1 hu
  exact uni_bd (runes_ok h r hr) u hu
theorem flat_small : ∀ rs : List Int, (∀ r ∈ rs, r < 256) → rs.flatMap uni = rs
  | [], _ => rfl
  | r :: rs, h => by
    have := h r (.head _)
    rw [List.flatMap_cons, flat_small rs fun x hx => h x (.tail _ hx), show uni r = [r] by unfold uni; rw [if_pos (by omega)]]
    rfl
theorem unis_nar {l : List UInt8} (h : narB l = true) : unis l = rns l := by
  unfold unis
  unfold narB at h
  exact flat_small _ fun r hr => by have := List.all_eq_true.1 h r hr; simpa using this
theorem rns_nar {l : List UInt8} (hv : validD l = true) (h : narB l = true) : ∀ r ∈ rns l, 0 ≤ r ∧ r < 256 := fun r hr => by
  unfold narB at h
  have h1 := List.all_eq_true.1 h r hr
  exact ⟨(runes_ok hv r hr).1, by simpa using h1⟩

theorem by8_nat {u : Int} (h : 0 ≤ u) : ((by8 u).toNat : Int) = u % 256 := by
  have h0 := Int.emod_nonneg u (show (256 : Int) ≠ 0 by omega)
  have h1 := Int.emod_lt_of_pos u (show (0 : Int) < 256 by omega)
  unfold by8
  rw [UInt8.toNat_ofNat', Nat.mod_eq_of_lt (by omega)]
  omega
theorem getD_mid (p q : List UInt8) (x : UInt8) : (p ++ x :: q).getD p.length 0 = x := by simp [List.getD_eq_getElem?_getD]
theorem getD_mid1 (p q : List UInt8) (x y : UInt8) : (p ++ x :: y :: q).getD (p.length + 1) 0 = y := by
  simp [List.getD_eq_getElem?_getD]

theorem rdA_nil (l : List UInt8) (fl at_ : Nat) : rdA l [] fl at_ = (fl, at_, 0) := by unfold rdA; rfl

theorem rdU1_nar (p q : List UInt8) {cs : List Int} {u : Int} (h0 : 0 ≤ u) (h1 : u < 256) : rdU1 (p ++ by8 u :: q) cs 0 p.length = (u.toNat, p.length + 1, 0) := by
  unfold rdU1
  rw [if_pos rfl, if_pos (by simp), getD_mid]
  have := by8_nat h0
  refine Prod.ext ?_ rfl
  simp only
  omega
theorem rdU1_wide (p q : List UInt8) {cs : List Int} {u : Int} (h0 : 0 ≤ u) (h1 : u ≤ 65535) (hc : cs.contains ((p.length : Int) + 1) = false) : rdU1 (p ++ by8 u :: by8 (u / 256) :: q) cs 1 p.length = (u.toNat, p.length + 2, 0) := by
  unfold rdU1
  rw [if_neg (by decide), if_pos (by simp), if_neg (by rw [hc]; decide), getD_mid, getD_mid1]
  have e1 := by8_nat h0
  have e2 := by8_nat (show 0 ≤ u / 256 by omega)
  refine Prod.ext ?_ rfl
  simp only
  omega

theorem rdUs_nar : ∀ (us : List Int) (p q : List UInt8), (∀ u ∈ us, 0 ≤ u ∧ u < 256) → rdUs (p ++ (us.map by8 ++ q)) [] us.length 0 p.length = (us, p.length + us.length, 0)
  | [], p, q, _ => rfl
  | u :: us, p, q, h => by
    obtain ⟨h0, h1⟩ := h u (.head _)
    have ih := rdUs_nar us (p ++ [by8 u]) q fun x hx => h x (.tail _ hx)
    rw [List.length_append, List.length_singleton, List.append_assoc, List.singleton_append] at ih
    rw [List.length_cons, rdUs, rdA_nil]
    simp only
    rw [List.map_cons, List.cons_append, rdU1_nar p _ h0 h1]
    simp only [↓reduceIte]
    rw [ih]
    refine Prod.ext ?_ (Prod.ext ?_ rfl)
    · simp only [List.cons.injEq, and_true]; omega
    · simp only; omega
theorem rdUs_wide : ∀ (us : List Int) (p q : List UInt8), (∀ u ∈ us, 0 ≤ u ∧ u ≤ 65535) → rdUs (p ++ (wideBytes us ++ q)) [] us.length 1 p.length = (us, p.length + 2 * us.length, 0)
  | [], p, q, _ => rfl
  | u :: us, p, q, h => by
    obtain ⟨h0, h1⟩ := h u (.head _)
    have ih := rdUs_wide us (p ++ [by8 u, by8 (u / 256)]) q fun x hx => h x (.tail _ hx)
    have e : p ++ (wideBytes (u :: us) ++ q) = p ++ by8 u :: by8 (u / 256) :: (wideBytes us ++ q) := by simp [wideBytes, b2]
    rw [List.append_assoc, show (p ++ [by8 u, by8 (u / 256)]).length = p.length + 2 by simp] at ih
    rw [List.length_cons, rdUs, rdA_nil]
    simp only
    rw [e, rdU1_wide p _ h0 h1 rfl]
    simp only [↓reduceIte]
    have e2 : p ++ by8 u :: by8 (u / 256) :: (wideBytes us ++ q) = p ++ ([by8 u, by8 (u / 256)] ++ (wideBytes us ++ q)) := rfl
    rw [e2, ih]
    refine Prod.ext ?_ (Prod.ext ?_ rfl)
    · simp only [List.cons.injEq, and_true]; omega
    · simp only; omega

theorem pb_len {l : List UInt8} (h : uE l = 0) : szV l = ((pb l).length : Int) := by
  unfold szV pb
  rw [if_pos h]
  by_cases hn : narB l = true
  · rw [if_pos hn, if_pos hn]
    have : unN l = (rns l).length := by unfold unN; rw [unis_nar hn]
    simp [b2, narBytes]
    omega
  · rw [if_neg hn, if_neg hn]
    have : (wideBytes (unis l)).length = 2 * unN l := by
      unfold wideBytes unN
      generalize unis l = us
      induction us with
      | nil => rfl
      | cons u us ih => simp only [List.flatMap_cons, List.length_append, ih, b2, List.length_cons, List.length_nil]; omega
    simp [b2, this]
    omega

/-- A text that was put is read as it was, wherever it stands. -/
theorem rdS_back (p q l : List UInt8) (h : uE l = 0) : rdS (p ++ (pb l ++ q)) [] p.length = (l, p.length + (pb l).length, 0) := by
  obtain ⟨hv, hN⟩ := uE_valid h
  have hlen : (pb l).length = 2 + (if narB l = true then 1 + unN l else 1 + 2 * unN l) := by
    have h1 := pb_len h
    unfold szV at h1
    rw [if_pos h] at h1
    by_cases hn : narB l = true
    · rw [if_pos hn] at h1 ⊢; omega
    · rw [if_neg hn] at h1 ⊢; omega
  have e1 := by8_nat (show (0 : Int) ≤ (unN l : Int) by omega)
  have e2 := by8_nat (show (0 : Int) ≤ (unN l : Int) / 256 by omega)
  have hall : rdAll (p ++ (pb l ++ q)) [] p.length = (unis l, p.length + (pb l).length, 0) := by
    unfold rdAll
    rw [if_pos (by simp only [List.length_append]; omega)]
    have hk : ((p ++ (pb l ++ q)).getD p.length 0).toNat + 256 * ((p ++ (pb l ++ q)).getD (p.length + 1) 0).toNat = unN l := by
      unfold pb b2
      rw [List.append_assoc, List.cons_append, List.cons_append, List.nil_append, getD_mid, getD_mid1]
      omega
    rw [hk, if_neg (by omega)]
    by_cases hn : narB l = true
    · have ep : p ++ (pb l ++ q) = (p ++ b2 (unN l)) ++ (0 :: (narBytes (rns l) ++ q)) := by unfold pb; rw [if_pos hn]; simp
      have hf : rdF (p ++ (pb l ++ q)) (p.length + 2) = (0, p.length + 3, 0) := by
        have hl2 : (p ++ b2 (unN l)).length = p.length + 2 := by simp [b2]
        unfold rdF
        rw [ep, ← hl2, getD_mid, if_pos (by simp), if_pos (by decide)]
        refine Prod.ext (by rfl) (Prod.ext ?_ rfl)
        simp only
        omega
      rw [hf, if_pos rfl]
      have ep2 : p ++ (pb l ++ q) = (p ++ b2 (unN l) ++ [0]) ++ ((rns l).map by8 ++ q) := by rw [ep]; simp [narBytes]
      have hu := rdUs_nar (rns l) (p ++ b2 (unN l) ++ [0]) q (rns_nar hv hn)
      rw [← ep2, show (p ++ b2 (unN l : Int) ++ [0] : List UInt8).length = p.length + 3 from by simp [b2], ← unis_nar hn] at hu
      show rdUs _ _ (unN l) 0 (p.length + 3) = _
      rw [show unN l = (unis l).length from rfl, hu, hlen, if_pos hn]
      refine Prod.ext rfl (Prod.ext ?_ rfl)
      simp only
      unfold unN
      omega
    · have ep : p ++ (pb l ++ q) = (p ++ b2 (unN l)) ++ (1 :: (wideBytes (unis l) ++ q)) := by unfold pb; rw [if_neg hn]; simp
      have hf : rdF (p ++ (pb l ++ q)) (p.length + 2) = (1, p.length + 3, 0) := by
        have hl2 : (p ++ b2 (unN l)).length = p.length + 2 := by simp [b2]
        unfold rdF
        rw [ep, ← hl2, getD_mid, if_pos (by simp), if_pos (by decide)]
        refine Prod.ext (by rfl) (Prod.ext ?_ rfl)
        simp only
        omega
      rw [hf, if_pos rfl]
      have ep2 : p ++ (pb l ++ q) = (p ++ b2 (unN l) ++ [1]) ++ (wideBytes (unis l) ++ q) := by rw [ep]; simp
      have hu := rdUs_wide (unis l) (p ++ b2 (unN l) ++ [1]) q (unis_bd hv)
      rw [← ep2, show (p ++ b2 (unN l : Int) ++ [1] : List UInt8).length = p.length + 3 from by simp [b2]] at hu
      show rdUs _ _ (unN l) 1 (p.length + 3) = _
      rw [show unN l = (unis l).length from rfl, hu, hlen, if_neg hn]
      refine Prod.ext rfl (Prod.ext ?_ rfl)
      simp only
      unfold unN
      omega
  unfold rdS
  rw [hall, if_pos rfl, jn_text hv]
  rfl
end Go.Proofs.YtllcecnkbndokaaGreatDoor
namespace Go.Proofs.YtllcecnkbndokaaGreatDoor
open Go.Lib

def cutB (zs : List UInt8) (k : Nat) : Bool := zs.any fun x => x.toNat == k
/-- A unit in bytes. -/
def ub (fl : Nat) (u : Int) : List UInt8 := if fl = 0 then [by8 u] else [by8 u, by8 (u / 256)]
def fitU (fl : Nat) (u : Int) : Prop := 0 ≤ u ∧ u ≤ 65535 ∧ (fl = 0 → u < 256)

def Pre (us : List Int) (w0 : Nat) (b : List UInt8) (cs : List Int) (i fl : Nat) : Prop :=
  ∀ (q : List UInt8) (ds : List Int) (m : Nat), (∀ x ∈ ds, (b.length : Int) ≤ x) →
    rdUs (b ++ q) (cs ++ ds) (i + m) w0 3 = (us.take i ++ (rdUs (b ++ q) (cs ++ ds) m fl b.length).1, (rdUs (b ++ q) (cs ++ ds) m fl b.length).2)

theorem contains_no {l : List Int} {x : Int} (h : ∀ y ∈ l, y ≠ x) : l.contains x = false := by
  rw [Bool.eq_false_iff]
  intro hc
  have := List.contains_iff_mem.1 hc
  exact h x this rfl

theorem rdU1_ub (p q : List UInt8) {cs : List Int} {fl : Nat} {u : Int} (hf : fl ≤ 1) (hu : fitU fl u) (hc : cs.contains ((p.length : Int) + 1) = false) :
    rdU1 (p ++ (ub fl u ++ q)) cs fl p.length = (u.toNat, p.length + (ub fl u).length, 0) := by
  obtain ⟨h0, h1, h2⟩ := hu
  have hfl : fl = 0 ∨ fl = 1 := by omega
  rcases hfl with rfl | rfl
  · unfold ub
    rw [if_pos rfl, List.singleton_append, rdU1_nar p q h0 (h2 rfl)]
    rfl
  · unfold ub
    rw [if_neg (by decide)]
    show rdU1 (p ++ by8 u :: by8 (u / 256) :: q) cs 1 p.length = _
    rw [rdU1_wide p q h0 h1 hc]
    rfl
theorem ub_len (fl : Nat) (u : Int) : 1 ≤ (ub fl u).length ∧ (ub fl u).length ≤ 2 := by
  unfold ub
  split <;> simp

theorem take_one {us : List Int} {i : Nat} {u : Int} (h : us[i]? = some u) : us.take (i + 1) = us.take i ++ [u] := by
  have hi := (List.getElem?_eq_some_iff.1 h).1
  rw [← List.take_append_getElem hi]
  rw [List.getElem?_eq_getElem hi] at h
  injection h with h
  rw [h]

theorem Pre.next {us : List Int} {w0 : Nat} {b : List UInt8} {cs : List Int} {i fl : Nat} {u : Int} (h : Pre us w0 b cs i fl) (hcs : ∀ x ∈ cs, x < (b.length : Int)) (hui : us[i]? = some u) (hf : fl ≤ 1) (hu : fitU fl u) :
    Pre us w0 (b ++ ub fl u) cs (i + 1) fl := by
  intro q ds m hds
  have hl := ub_len fl u
  have hds2 : ∀ x ∈ ds, (b.length : Int) + ((ub fl u).length : Int) ≤ x := fun x hx => by
    have := hds x hx
    rw [List.length_append] at this
    omega
  have hP := h (ub fl u ++ q) ds (m + 1) (fun x hx => by have := hds2 x hx; omega)
  have hA : rdA (b ++ (ub fl u ++ q)) (cs ++ ds) fl b.length = (fl, b.length, 0) := by
    unfold rdA
    rw [if_neg]
    rw [contains_no fun y hy => by
      rcases List.mem_append.1 hy with hy | hy
      · have := hcs y hy; omega
      · have := hds2 y hy; omega]
    decide
  have hc : (cs ++ ds).contains ((b.length : Int) + 1) = false ∨ fl = 0 := by
    by_cases h0 : fl = 0
    · exact .inr h0
    · left
      have hl2 : (ub fl u).length = 2 := by unfold ub; rw [if_neg h0]; rfl
      refine contains_no fun y hy => ?_
      rcases List.mem_append.1 hy with hy | hy
      · have := hcs y hy; omega
      · have := hds2 y hy; omega
  have hU : rdU1 (b ++ (ub fl u ++ q)) (cs ++ ds) fl b.length = (u.toNat, b.length + (ub fl u).length, 0) := by
    rcases hc with hc | rfl
    · exact rdU1_ub b q hf hu hc
    · unfold ub
      rw [if_pos rfl, List.singleton_append, rdU1_nar b q hu.1 (hu.2.2 rfl)]
      rfl
  rw [rdUs, hA] at hP
  simp only at hP
  rw [hU] at hP
  simp only [↓reduceIte] at hP
  rw [List.append_assoc, List.length_append, take_one hui, show i + 1 + m = i + (m + 1) by omega, hP]
  have e : ((u.toNat : Nat) : Int) = u := by have := hu.1; omega
  rw [e, List.append_assoc]
  rfl

theorem Pre.cut {us : List Int} {w0 : Nat} {b : List UInt8} {cs : List Int} {i fl w : Nat} {u : Int} (h : Pre us w0 b cs i fl) (hcs : ∀ x ∈ cs, x < (b.length : Int)) (hui : us[i]? = some u) (hf : w ≤ 1) (hu : fitU w u) :
    Pre us w0 (b ++ [UInt8.ofNat w] ++ ub w u) (cs ++ [(b.length : Int)]) (i + 1) w := by
  intro q ds m hds
  have hl := ub_len w u
  have hds2 : ∀ x ∈ ds, (b.length : Int) + 1 + ((ub w u).length : Int) ≤ x := fun x hx => by
    have := hds x hx
    rw [List.length_append, List.length_append, List.length_singleton] at this
    omega
  have hP := h ([UInt8.ofNat w] ++ (ub w u ++ q)) ((b.length : Int) :: ds) (m + 1) (fun x hx => by
    rcases List.mem_cons.1 hx with rfl | hx
    · omega
    · have := hds2 x hx; omega)
  have hwb : (UInt8.ofNat w).toNat = w := by rw [UInt8.toNat_ofNat', Nat.mod_eq_of_lt (by omega)]
  have hA : rdA (b ++ ([UInt8.ofNat w] ++ (ub w u ++ q))) (cs ++ (b.length : Int) :: ds) fl b.length = (w, b.length + 1, 0) := by
    unfold rdA
    rw [if_pos (by rw [List.contains_iff_mem]; simp)]
    unfold rdF
    rw [if_pos (by simp), List.singleton_append, getD_mid, hwb, if_pos hf]
  have hl1 : (b ++ [UInt8.ofNat w]).length = b.length + 1 := by simp
  have hU : rdU1 (b ++ ([UInt8.ofNat w] ++ (ub w u ++ q))) (cs ++ (b.length : Int) :: ds) w (b.length + 1) = (u.toNat, b.length + 1 + (ub w u).length, 0) := by
    rw [← List.append_assoc, ← hl1]
    by_cases h0 : w = 0
    · subst h0
      unfold ub
      rw [if_pos rfl, List.singleton_append, rdU1_nar _ q hu.1 (hu.2.2 rfl)]
      rfl
    · refine rdU1_ub _ q hf hu ?_
      have hl2 : (ub w u).length = 2 := by unfold ub; rw [if_neg h0]; rfl
      rw [hl1]
      refine contains_no fun y hy => ?_
      rcases List.mem_append.1 hy with hy | hy
      · have := hcs y hy; omega
      · rcases List.mem_cons.1 hy with rfl | hy
        · omega
        · have := hds2 y hy; omega
  rw [rdUs, hA] at hP
  simp only at hP
  rw [hU] at hP
  simp only [↓reduceIte] at hP
  have e1 : b ++ [UInt8.ofNat w] ++ ub w u ++ q = b ++ ([UInt8.ofNat w] ++ (ub w u ++ q)) := by simp
  have e2 : cs ++ [(b.length : Int)] ++ ds = cs ++ (b.length : Int) :: ds := by simp
  have e3 : (b ++ [UInt8.ofNat w] ++ ub w u).length = b.length + 1 + (ub w u).length := by simp; omega
  rw [e1, e2, e3, take_one hui, show i + 1 + m = i + (m + 1) by omega, hP]
  have e : ((u.toNat : Nat) : Int) = u := by have := hu.1; omega
  rw [e, List.append_assoc]
  rfl

/-- What holds as i units are written. -/
structure St (us : List Int) (zs : List UInt8) (i : Nat) (b : List UInt8) (cs : List Int) (w : Nat) : Prop where
  head : ∃ w0 t, w0 ≤ 1 ∧ b = b2 (us.length : Int) ++ UInt8.ofNat w0 :: t ∧ Pre us w0 b cs i w
  wle : w ≤ 1
  low : ∀ x ∈ cs, x + 2 ≤ (b.length : Int)
  apart : cs.Pairwise fun x y => x + 2 ≤ y
  seg : w = 0 → ∀ k, i ≤ k → (∀ j, i ≤ j → j ≤ k → cutB zs j = false) → ∀ u, us[k]? = some u → u < 256
/-- What the flags of a part from unit i on have to meet. -/
def Wid (us : List Int) (zs : List UInt8) (i w : Nat) : Prop := w ≤ 1 ∧ (w = 0 → ∀ k, i ≤ k → (∀ j, i < j → j ≤ k → cutB zs j = false) → ∀ u, us[k]? = some u → u < 256)

variable {us : List Int} {zs : List UInt8} {b : List UInt8} {cs : List Int} {i w w' : Nat} {u : Int}

theorem Wid.fit (h : Wid us zs i w) (hui : us[i]? = some u) (hu : 0 ≤ u ∧ u ≤ 65535) : fitU w u :=
  ⟨hu.1, hu.2, fun h0 => h.2 h0 i (Nat.le_refl _) (fun j h1 h2 => by omega) u hui⟩

theorem St.first (h : Wid us zs 0 w) (hui : us[0]? = some u) (hu : 0 ≤ u ∧ u ≤ 65535) : St us zs 1 (b2 (us.length : Int) ++ [UInt8.ofNat w] ++ ub w u) [] w := by
  have hb : (b2 (us.length : Int) ++ [UInt8.ofNat w]).length = 3 := by simp [b2]
  have hP : Pre us w (b2 (us.length : Int) ++ [UInt8.ofNat w]) [] 0 w := by
    intro q ds m hds
    rw [hb]
    simp
  refine ⟨⟨w, ub w u, h.1, by simp, hP.next (fun x hx => by cases hx) hui h.1 (h.fit hui hu)⟩, h.1, fun x hx => (by cases hx), .nil, fun h0 k hk hc => h.2 h0 k (by omega) fun j h1 h2 => hc j (by omega) h2⟩
theorem St.next (h : St us zs i b cs w) (hc : cutB zs i = false) (hui : us[i]? = some u) (hu : 0 ≤ u ∧ u ≤ 65535) : St us zs (i + 1) (b ++ ub w u) cs w := by
  obtain ⟨w0, t, h1, h2, h3⟩ := h.head
  have hl := ub_len w u
  have hf : fitU w u := ⟨hu.1, hu.2, fun h0 => h.seg h0 i (Nat.le_refl _) (fun j h1 h2 => by
    obtain rfl : j = i := by omega
    exact hc) u hui⟩
  refine ⟨⟨w0, t ++ ub w u, h1, by rw [h2]; simp, h3.next (fun x hx => by have := h.low x hx; omega) hui h.wle hf⟩, h.wle, fun x hx => ?_, h.apart, fun h0 k hk hcc => h.seg h0 k (by omega) fun j hj1 hj2 => ?_⟩
  · have := h.low x hx
    rw [List.length_append]
    omega
  · by_cases hj : j = i
    · subst hj; exact hc
    · exact hcc j (by omega) hj2
theorem St.cut (h : St us zs i b cs w) (hw : Wid us zs i w') (hui : us[i]? = some u) (hu : 0 ≤ u ∧ u ≤ 65535) : St us zs (i + 1) (b ++ [UInt8.ofNat w'] ++ ub w' u) (cs ++ [(b.length : Int)]) w' := by
  obtain ⟨w0, t, h1, h2, h3⟩ := h.head
  have hl := ub_len w' u
  refine ⟨⟨w0, t ++ [UInt8.ofNat w'] ++ ub w' u, h1, by rw [h2]; simp, h3.cut (fun x hx => by have := h.low x hx; omega) hui hw.1 (hw.fit hui hu)⟩, hw.1, fun x hx => ?_, ?_, fun h0 k hk hcc => hw.2 h0 k (by omega) fun j hj1 hj2 => hcc j (by omega) hj2⟩
  · rw [List.length_append, List.length_append, List.length_singleton]
    rcases List.mem_append.1 hx with hx | hx
    · have := h.low x hx; omega
    · simp at hx; omega
  · rw [List.pairwise_append]
    refine ⟨h.apart, by simp, fun x hx y hy => ?_⟩
    simp at hy
    have := h.low x hx
    omega

theorem apart_two : ∀ {l : List Int}, (l.Pairwise fun x y => x + 2 ≤ y) → ∀ x ∈ l, ∀ y ∈ l, y ≠ x + 1
  | [], _, x, hx, _, _ => by cases hx
  | a :: l, h, x, hx, y, hy => by
    rw [List.pairwise_cons] at h
    rcases List.mem_cons.1 hx with e | hx'
    · rcases List.mem_cons.1 hy with e' | hy'
      · omega
      · have := h.1 _ hy'; omega
    · rcases List.mem_cons.1 hy with e' | hy'
      · have := h.1 _ hx'; omega
      · exact apart_two h.2 x hx' y hy'
theorem apart_no {l : List Int} (h : l.Pairwise fun x y => x + 2 ≤ y) : ∀ x : Int, l.contains x = true → l.contains (x + 1) = false := by
  intro x hx
  have hx := List.contains_iff_mem.1 hx
  exact contains_no fun y hy => apart_two h x hx y hy
theorem apart_up {l : List Int} (h : l.Pairwise fun x y => x + 2 ≤ y) : l.Pairwise (· ≤ ·) := h.imp fun h => by omega

/-- All that was written is read as it was. -/
theorem all_back {l : List UInt8} {w0 : Nat} {t : List UInt8} (hv : validD l = true) (hN : unN l ≤ 1000) (hw0 : w0 ≤ 1) (hb : b = b2 (unN l : Int) ++ UInt8.ofNat w0 :: t) (hP : Pre (unis l) w0 b cs (unN l) w) : rdS (b ++ [7]) cs 0 = (l, b.length, 0) := by
  have e1 := by8_nat (show (0 : Int) ≤ (unN l : Int) by omega)
  have e2 := by8_nat (show (0 : Int) ≤ (unN l : Int) / 256 by omega)
  have hwb : (UInt8.ofNat w0).toNat = w0 := by rw [UInt8.toNat_ofNat', Nat.mod_eq_of_lt (by omega)]
  have hP0 := hP [7] [] 0 (fun x hx => by cases hx)
  rw [Nat.add_zero, List.append_nil, rdUs, List.append_nil, show (unis l).take (unN l) = unis l from List.take_of_length_le (Nat.le_refl _)] at hP0
  have hall : rdAll (b ++ [7]) cs 0 = (unis l, b.length, 0) := by
    have g0 : (b ++ [7]).getD 0 0 = by8 (unN l) := by rw [hb]; rfl
    have g1 : (b ++ [7]).getD 1 0 = by8 ((unN l : Int) / 256) := by rw [hb]; rfl
    have g2 : (b ++ [7]).getD 2 0 = UInt8.ofNat w0 := by rw [hb]; rfl
    have hl3 : 3 < (b ++ [7]).length := by rw [hb]; simp [b2]
    unfold rdAll
    rw [if_pos (by omega)]
    simp only [Nat.zero_add]
    rw [g0, g1, show (by8 (unN l)).toNat + 256 * (by8 ((unN l : Int) / 256)).toNat = unN l by omega, if_neg (by omega)]
    have hf : rdF (b ++ [7]) 2 = (w0, 3, 0) := by
      unfold rdF
      rw [if_pos (by omega), g2, hwb, if_pos hw0]
    rw [hf, if_pos rfl]
    exact hP0
  unfold rdS
  rw [hall, if_pos rfl, jn_text hv]
  rfl
end Go.Proofs.YtllcecnkbndokaaGreatDoor
namespace Go.Proofs.YtllcecnkbndokaaGreatDoor
open Go.Lib

/-- What is written so far: the bytes, the cuts, where the part begins. -/
structure LS where
  b : List UInt8
  cs : List Int
  bg : Nat
/-- A text's flags. -/
def flT (l : List UInt8) : Nat := if narB l = true then 0 else 1
theorem flT_le (l : List UInt8) : flT l ≤ 1 := by unfold flT; split <;> omega
/-- A unit of w + 1 bytes behind it. -/
def putU (w : Nat) (S : LS) (u : Int) : LS :=
  if 224 < S.b.length - S.bg + (w + 1) then ⟨S.b ++ [UInt8.ofNat w] ++ ub w u, S.cs ++ [(S.b.length : Int)], S.b.length⟩
  else ⟨S.b ++ ub w u, S.cs, S.bg⟩
def headT (l : List UInt8) : List UInt8 := b2 (unN l : Int) ++ [UInt8.ofNat (flT l)]
/-- Ahead of a text's three bytes. -/
def cut3 (S : LS) : LS := if 224 < S.b.length - S.bg + 3 then ⟨S.b, S.cs ++ [(S.b.length : Int)], S.b.length⟩ else S
def begT (S : LS) (l : List UInt8) : LS := ⟨(cut3 S).b ++ headT l, (cut3 S).cs, (cut3 S).bg⟩
def putT (S : LS) (l : List UInt8) : LS := (unis l).foldl (putU (flT l)) (begT S l)
def layT (S : LS) (ls : List (List UInt8)) : LS := ls.foldl putT S
def placesT : LS → List (List UInt8) → List Nat
  | _, [] => []
  | S, l :: ls => S.b.length :: placesT (putT S l) ls

theorem cut3_b (S : LS) : (cut3 S).b = S.b := by unfold cut3; split <;> rfl
theorem headT_len (l : List UInt8) : (headT l).length = 3 := by simp [headT, b2]
theorem ub_len2 (w : Nat) (hw : w ≤ 1) (u : Int) : (ub w u).length = w + 1 := by
  unfold ub
  rcases (show w = 0 ∨ w = 1 by omega) with rfl | rfl <;> rfl

/-- What holds of all that is written: no cut below eight, two bytes at least behind each; no part too long. -/
structure Inv (S : LS) : Prop where
  low : ∀ x ∈ S.cs, 8 ≤ x ∧ x + 2 ≤ (S.b.length : Int)
  apart : S.cs.Pairwise fun x y => x + 2 ≤ y
  bg : S.bg ≤ S.b.length
  part : S.b.length - S.bg ≤ 224
  last : (S.cs = [] ∧ S.bg = 0) ∨ S.cs.getLast? = some (S.bg : Int)
  far : ∀ i, ∀ x y, S.cs[i]? = some x → S.cs[i + 1]? = some y → y - x ≤ 224
  first : ∀ x, S.cs[0]? = some x → x ≤ 224
  eight : 8 ≤ S.b.length

theorem getLast_of {l : List Int} {i : Nat} {x z : Int} (h : l[i]? = some x) (hn : l[i + 1]? = none) (hl : l.getLast? = some z) : x = z := by
  have h1 := (List.getElem?_eq_some_iff.1 h).1
  have h2 : l.length ≤ i + 1 := List.getElem?_eq_none_iff.1 hn
  rw [List.getLast?_eq_getElem?, show l.length - 1 = i by omega, h] at hl
  exact Option.some.inj hl

/-- A cut at the end, and at least two bytes behind it. -/
theorem Inv.cut {S : LS} (h : Inv S) {t : List UInt8} (ht : 2 ≤ t.length) (ht2 : t.length ≤ 224) : Inv ⟨S.b ++ t, S.cs ++ [(S.b.length : Int)], S.b.length⟩ := by
  refine ⟨fun x hx => ?_, ?_, by simp, by simp; omega, .inr (by simp), fun i x y hx hy => ?_, fun x hx => ?_, by have := h.eight; simp; omega⟩
  · rw [List.length_append]
    rcases List.mem_append.1 hx with hx | hx
    · have := h.low x hx; omega
    · simp at hx; have := h.eight; omega
  · rw [List.pairwise_append]
    refine ⟨h.apart, by simp, fun x hx y hy => ?_⟩
    simp at hy
    have := h.low x hx
    omega
  · simp only at hx hy
    rcases Nat.lt_trichotomy (i + 1) S.cs.length with hl | hl | hl
    · rw [List.getElem?_append_left (by omega)] at hx hy
      exact h.far i x y hx hy
    · rw [List.getElem?_append_left (by omega)] at hx
      rw [List.getElem?_append_right (by omega), hl, Nat.sub_self] at hy
      simp at hy
      rcases h.last with ⟨h1, _⟩ | h1
      · rw [h1] at hl; simp at hl
      · have := getLast_of hx (List.getElem?_eq_none (by omega)) h1
        have h2 := h.part
        have h3 := h.bg
        omega
    · have hz := (List.getElem?_eq_some_iff.1 hy).1
      simp at hz
      omega
  · simp only at hx
    cases hc : S.cs with
    | nil =>
      rw [hc] at hx
      simp at hx
      rcases h.last with ⟨_, h1⟩ | h1
      · have h2 := h.part
        omega
      · rw [hc] at h1; cases h1
    | cons a r =>
      rw [hc] at hx
      simp at hx
      exact h.first x (by rw [hc]; simpa using hx)
/-- Bytes behind it, the part no longer than may be. -/
theorem Inv.more {S : LS} (h : Inv S) {t : List UInt8} (ht : S.b.length - S.bg + t.length ≤ 224) : Inv ⟨S.b ++ t, S.cs, S.bg⟩ := by
  refine ⟨fun x hx => ?_, h.apart, ?_, ?_, h.last, h.far, h.first, by have := h.eight; simp; omega⟩
  · have := h.low x hx
    simp
    omega
  · have := h.bg; simp; omega
  · have := h.bg; simp; omega
theorem Inv.putU {S : LS} (h : Inv S) {w : Nat} (hw : w ≤ 1) (u : Int) : Inv (putU w S u) := by
  unfold Go.Proofs.YtllcecnkbndokaaGreatDoor.putU
  have hl := ub_len2 w hw u
  split
  · have := h.cut (t := [UInt8.ofNat w] ++ ub w u) (by simp; omega) (by simp; omega)
    rw [← List.append_assoc] at this
    exact this
  · exact h.more (by omega)
theorem Inv.begT {S : LS} (h : Inv S) (l : List UInt8) : Inv (begT S l) := by
  unfold Go.Proofs.YtllcecnkbndokaaGreatDoor.begT cut3
  have hl := headT_len l
  split
  · exact h.cut (by omega) (by omega)
  · exact h.more (by omega)
theorem Inv.fold {w : Nat} (hw : w ≤ 1) : ∀ (us : List Int) {S : LS}, Inv S → Inv (us.foldl (Go.Proofs.YtllcecnkbndokaaGreatDoor.putU w) S)
  | [], _, h => h
  | u :: us, _, h => Inv.fold hw us (h.putU hw u)
theorem Inv.putT {S : LS} (h : Inv S) (l : List UInt8) : Inv (putT S l) := Inv.fold (flT_le l) _ (h.begT l)
theorem Inv.lay : ∀ (ls : List (List UInt8)) {S : LS}, Inv S → Inv (layT S ls)
  | [], _, h => h
  | l :: ls, _, h => Inv.lay ls (h.putT l)

/-- What is written stays; what comes has its cuts behind it. -/
structure Ext (S T : LS) : Prop where
  b : ∃ q, T.b = S.b ++ q
  cs : ∃ ds, T.cs = S.cs ++ ds ∧ ∀ x ∈ ds, (S.b.length : Int) ≤ x
theorem Ext.refl (S : LS) : Ext S S := ⟨⟨[], by simp⟩, [], by simp, fun x hx => by cases hx⟩
theorem Ext.trans {S T R : LS} (h : Ext S T) (h' : Ext T R) : Ext S R := by
  obtain ⟨⟨q, hq⟩, ds, hd, hx⟩ := h
  obtain ⟨⟨q', hq'⟩, ds', hd', hx'⟩ := h'
  refine ⟨⟨q ++ q', by rw [hq', hq, List.append_assoc]⟩, ds ++ ds', by rw [hd', hd, List.append_assoc], fun x h => ?_⟩
  rcases List.mem_append.1 h with h | h
  · exact hx x h
  · have := hx' x h
    rw [hq, List.length_append] at this
    omega
theorem Ext.putU (w : Nat) (S : LS) (u : Int) : Ext S (putU w S u) := by
  unfold Go.Proofs.YtllcecnkbndokaaGreatDoor.putU
  split
  · exact ⟨⟨_, by rw [List.append_assoc]⟩, _, rfl, fun x hx => by simp at hx; omega⟩
  · exact ⟨⟨_, rfl⟩, [], by simp, fun x hx => by cases hx⟩
theorem Ext.fold (w : Nat) : ∀ (us : List Int) (S : LS), Ext S (us.foldl (Go.Proofs.YtllcecnkbndokaaGreatDoor.putU w) S)
  | [], S => Ext.refl S
  | u :: us, S => (Ext.putU w S u).trans (Ext.fold w us _)
theorem Ext.begT (S : LS) (l : List UInt8) : Ext S (begT S l) := by
  unfold Go.Proofs.YtllcecnkbndokaaGreatDoor.begT cut3
  split
  · exact ⟨⟨_, rfl⟩, _, rfl, fun x hx => by simp at hx; omega⟩
  · exact ⟨⟨_, rfl⟩, [], by simp, fun x hx => by cases hx⟩
theorem Ext.putT (S : LS) (l : List UInt8) : Ext S (putT S l) := (Ext.begT S l).trans (Ext.fold _ _ _)
theorem Ext.lay : ∀ (ls : List (List UInt8)) (S : LS), Ext S (layT S ls)
  | [], S => Ext.refl S
  | l :: ls, S => (Ext.putT S l).trans (Ext.lay ls _)
end Go.Proofs.YtllcecnkbndokaaGreatDoor
namespace Go.Proofs.YtllcecnkbndokaaGreatDoor
open Go.Lib

/-- Reading from place a on, what comes of the first i units. -/
def PreA (a : Nat) (us : List Int) (w0 : Nat) (b : List UInt8) (cs : List Int) (i fl : Nat) : Prop :=
  ∀ (q : List UInt8) (ds : List Int) (m : Nat), (∀ x ∈ ds, (b.length : Int) ≤ x) →
    rdUs (b ++ q) (cs ++ ds) (i + m) w0 a = (us.take i ++ (rdUs (b ++ q) (cs ++ ds) m fl b.length).1, (rdUs (b ++ q) (cs ++ ds) m fl b.length).2)

theorem PreA.next {a : Nat} {us : List Int} {w0 : Nat} {b : List UInt8} {cs : List Int} {i fl : Nat} {u : Int} (h : PreA a us w0 b cs i fl) (hcs : ∀ x ∈ cs, x < (b.length : Int)) (hui : us[i]? = some u) (hf : fl ≤ 1) (hu : fitU fl u) :
    PreA a us w0 (b ++ ub fl u) cs (i + 1) fl := by
  intro q ds m hds
  have hl := ub_len fl u
  have hds2 : ∀ x ∈ ds, (b.length : Int) + ((ub fl u).length : Int) ≤ x := fun x hx => by
    have := hds x hx
    rw [List.length_append] at this
    omega
  have hP := h (ub fl u ++ q) ds (m + 1) (fun x hx => by have := hds2 x hx; omega)
  have hA : rdA (b ++ (ub fl u ++ q)) (cs ++ ds) fl b.length = (fl, b.length, 0) := by
    unfold rdA
    rw [if_neg]
    rw [contains_no fun y hy => by
      rcases List.mem_append.1 hy with hy | hy
      · have := hcs y hy; omega
      · have := hds2 y hy; omega]
    decide
  have hc : (cs ++ ds).contains ((b.length : Int) + 1) = false ∨ fl = 0 := by
    by_cases h0 : fl = 0
    · exact .inr h0
    · left
      have hl2 : (ub fl u).length = 2 := by unfold ub; rw [if_neg h0]; rfl
      refine contains_no fun y hy => ?_
      rcases List.mem_append.1 hy with hy | hy
      · have := hcs y hy; omega
      · have := hds2 y hy; omega
  have hU : rdU1 (b ++ (ub fl u ++ q)) (cs ++ ds) fl b.length = (u.toNat, b.length + (ub fl u).length, 0) := by
    rcases hc with hc | rfl
    · exact rdU1_ub b q hf hu hc
    · unfold ub
      rw [if_pos rfl, List.singleton_append, rdU1_nar b q hu.1 (hu.2.2 rfl)]
      rfl
  rw [rdUs, hA] at hP
  simp only at hP
  rw [hU] at hP
  simp only [↓reduceIte] at hP
  rw [List.append_assoc, List.length_append, take_one hui, show i + 1 + m = i + (m + 1) by omega, hP]
  have e : ((u.toNat : Nat) : Int) = u := by have := hu.1; omega
  rw [e, List.append_assoc]
  rfl

theorem PreA.cut {a : Nat} {us : List Int} {w0 : Nat} {b : List UInt8} {cs : List Int} {i fl w : Nat} {u : Int} (h : PreA a us w0 b cs i fl) (hcs : ∀ x ∈ cs, x < (b.length : Int)) (hui : us[i]? = some u) (hf : w ≤ 1) (hu : fitU w u) :
    PreA a us w0 (b ++ [UInt8.ofNat w] ++ ub w u) (cs ++ [(b.length : Int)]) (i + 1) w := by
  intro q ds m hds
  have hl := ub_len w u
  have hds2 : ∀ x ∈ ds, (b.length : Int) + 1 + ((ub w u).length : Int) ≤ x := fun x hx => by
    have := hds x hx
    rw [List.length_append, List.length_append, List.length_singleton] at this
    omega
  have hP := h ([UInt8.ofNat w] ++ (ub w u ++ q)) ((b.length : Int) :: ds) (m + 1) (fun x hx => by
    rcases List.mem_cons.1 hx with rfl | hx
    · omega
    · have := hds2 x hx; omega)
  have hwb : (UInt8.ofNat w).toNat = w := by rw [UInt8.toNat_ofNat', Nat.mod_eq_of_lt (by omega)]
  have hA : rdA (b ++ ([UInt8.ofNat w] ++ (ub w u ++ q))) (cs ++ (b.length : Int) :: ds) fl b.length = (w, b.length + 1, 0) := by
    unfold rdA
    rw [if_pos (by rw [List.contains_iff_mem]; simp)]
    unfold rdF
    rw [if_pos (by simp), List.singleton_append, getD_mid, hwb, if_pos hf]
  have hl1 : (b ++ [UInt8.ofNat w]).length = b.length + 1 := by simp
  have hU : rdU1 (b ++ ([UInt8.ofNat w] ++ (ub w u ++ q))) (cs ++ (b.length : Int) :: ds) w (b.length + 1) = (u.toNat, b.length + 1 + (ub w u).length, 0) := by
    rw [← List.append_assoc, ← hl1]
    by_cases h0 : w = 0
    · subst h0
      unfold ub
      rw [if_pos rfl, List.singleton_append, rdU1_nar _ q hu.1 (hu.2.2 rfl)]
      rfl
    · refine rdU1_ub _ q hf hu ?_
      have hl2 : (ub w u).length = 2 := by unfold ub; rw [if_neg h0]; rfl
      rw [hl1]
      refine contains_no fun y hy => ?_
      rcases List.mem_append.1 hy with hy | hy
      · have := hcs y hy; omega
      · rcases List.mem_cons.1 hy with rfl | hy
        · omega
        · have := hds2 y hy; omega
  rw [rdUs, hA] at hP
  simp only at hP
  rw [hU] at hP
  simp only [↓reduceIte] at hP
  have e1 : b ++ [UInt8.ofNat w] ++ ub w u ++ q = b ++ ([UInt8.ofNat w] ++ (ub w u ++ q)) := by simp
  have e2 : cs ++ [(b.length : Int)] ++ ds = cs ++ (b.length : Int) :: ds := by simp
  have e3 : (b ++ [UInt8.ofNat w] ++ ub w u).length = b.length + 1 + (ub w u).length := by simp; omega
  rw [e1, e2, e3, take_one hui, show i + 1 + m = i + (m + 1) by omega, hP]
  have e : ((u.toNat : Nat) : Int) = u := by have := hu.1; omega
  rw [e, List.append_assoc]
  rfl

theorem Inv.below {S : LS} (h : Inv S) : ∀ x ∈ S.cs, x < (S.b.length : Int) := fun x hx => by have := h.low x hx; omega
theorem PreA.putU {a w0 i w : Nat} {us : List Int} {S : LS} {u : Int} (h : PreA a us w0 S.b S.cs i w) (hI : Inv S) (hui : us[i]? = some u) (hw : w ≤ 1) (hu : fitU w u) : PreA a us w0 (putU w S u).b (putU w S u).cs (i + 1) w := by
  unfold Go.Proofs.YtllcecnkbndokaaGreatDoor.putU
  split
  · exact h.cut hI.below hui hw hu
  · exact h.next hI.below hui hw hu
theorem PreA.fold {a w0 w : Nat} {us : List Int} (hw : w ≤ 1) (hf : ∀ u ∈ us, fitU w u) : ∀ (vs : List Int) (i : Nat) (S : LS), i ≤ us.length → us.drop i = vs → PreA a us w0 S.b S.cs i w → Inv S → PreA a us w0 (vs.foldl (Go.Proofs.YtllcecnkbndokaaGreatDoor.putU w) S).b (vs.foldl (Go.Proofs.YtllcecnkbndokaaGreatDoor.putU w) S).cs us.length w
  | [], i, S, hi, hd, h, _ => by
    have hl : us.length ≤ i := List.drop_eq_nil_iff.1 hd
    obtain rfl : i = us.length := by omega
    exact h
  | v :: vs, i, S, hi, hd, h, hI => by
    have hlt : i < us.length := by
      rcases Nat.lt_or_ge i us.length with hl | hl
      · exact hl
      · rw [List.drop_eq_nil_iff.2 hl] at hd; cases hd
    rw [List.drop_eq_getElem_cons hlt] at hd
    injection hd with h1 h2
    have hui : us[i]? = some v := by rw [List.getElem?_eq_getElem hlt, h1]
    exact PreA.fold hw hf vs (i + 1) _ hlt h2 (h.putU hI hui hw (hf v (List.mem_of_getElem? hui))) (hI.putU hw v)

theorem fit_all {l : List UInt8} (hv : validD l = true) : ∀ u ∈ unis l, fitU (flT l) u := fun u hu => by
  have h1 := unis_bd hv u hu
  refine ⟨h1.1, h1.2, fun h0 => ?_⟩
  have hn : narB l = true := by
    cases h : narB l
    · unfold flT at h0; rw [h] at h0; cases h0
    · rfl
  rw [unis_nar hn] at hu
  exact (rns_nar hv hn u hu).2
theorem begT_len (S : LS) (l : List UInt8) : (begT S l).b.length = S.b.length + 3 := by
  show ((cut3 S).b ++ headT l).length = _
  rw [cut3_b, List.length_append, headT_len]
/-- A text of the table is read as it was, whatever comes behind. -/
theorem lay_back {S T : LS} {l : List UInt8} (hI : Inv S) (h0 : uE l = 0) (hE : Ext (putT S l) T) : rdS T.b T.cs S.b.length = (l, (putT S l).b.length, 0) := by
  obtain ⟨hv, hn⟩ := uE_valid h0
  have hw := flT_le l
  have hP0 : PreA (S.b.length + 3) (unis l) (flT l) (begT S l).b (begT S l).cs 0 (flT l) := by
    intro q ds m hds
    rw [begT_len]
    simp
  have hP := PreA.fold hw (fit_all hv) (unis l) 0 _ (Nat.zero_le _) rfl hP0 (hI.begT l)
  obtain ⟨⟨q, hq⟩, ds, hd, hx⟩ := hE
  have hP1 := hP q ds 0 hx
  change rdUs ((putT S l).b ++ q) ((putT S l).cs ++ ds) _ _ _ = _ at hP1
  rw [← hq, ← hd, Nat.add_zero] at hP1
  rw [show rdUs ((List.foldl (Go.Proofs.YtllcecnkbndokaaGreatDoor.putU (flT l)) (begT S l) (unis l)).b ++ q) ((List.foldl (Go.Proofs.YtllcecnkbndokaaGreatDoor.putU (flT l)) (begT S l) (unis l)).cs ++ ds) 0 (flT l) (List.foldl (Go.Proofs.YtllcecnkbndokaaGreatDoor.putU (flT l)) (begT S l) (unis l)).b.length = ([], (putT S l).b.length, 0) from rfl, List.append_nil, List.take_of_length_le (Nat.le_refl _)] at hP1
  obtain ⟨⟨q2, hq2⟩, -⟩ := Ext.fold (flT l) (unis l) (begT S l)
  have hb : T.b = S.b ++ (by8 (unN l) :: by8 ((unN l : Int) / 256) :: UInt8.ofNat (flT l) :: (q2 ++ q)) := by
    rw [hq, show (putT S l).b = (begT S l).b ++ q2 from hq2]
    show ((cut3 S).b ++ headT l) ++ q2 ++ q = _
    rw [cut3_b]
    simp [headT, b2]
  have e1 := by8_nat (show (0 : Int) ≤ (unN l : Int) by omega)
  have e2 := by8_nat (show (0 : Int) ≤ (unN l : Int) / 256 by omega)
  have hwb : (UInt8.ofNat (flT l)).toNat = flT l := by rw [UInt8.toNat_ofNat', Nat.mod_eq_of_lt (by omega)]
  have hall : rdAll T.b T.cs S.b.length = (unis l, (putT S l).b.length, 0) := by
    have g0 : T.b.getD S.b.length 0 = by8 (unN l) := by rw [hb, getD_mid]
    have g1 : T.b.getD (S.b.length + 1) 0 = by8 ((unN l : Int) / 256) := by rw [hb, getD_mid1]
    have g2 : T.b.getD (S.b.length + 2) 0 = UInt8.ofNat (flT l) := by
      rw [hb]
      simp [List.getD_eq_getElem?_getD]
    have hl3 : S.b.length + 2 < T.b.length := by rw [hb]; simp
    unfold rdAll
    rw [if_pos (by omega), g0, g1, show (by8 (unN l)).toNat + 256 * (by8 ((unN l : Int) / 256)).toNat = unN l by omega, if_neg (by omega)]
    have hf : rdF T.b (S.b.length + 2) = (flT l, S.b.length + 3, 0) := by
      unfold rdF
      rw [if_pos hl3, g2, hwb, if_pos hw]
    rw [hf, if_pos rfl]
    exact hP1
  unfold rdS
  rw [hall, if_pos rfl, jn_text hv]
  rfl
/-- No cut within a text's three bytes. -/
theorem lay_head {S T : LS} {l : List UInt8} (hI : Inv S) (hE : Ext (putT S l) T) : ∀ x ∈ T.cs, x ≤ (S.b.length : Int) ∨ (S.b.length : Int) + 3 ≤ x := by
  intro x hx
  obtain ⟨-, ds, hd, hb⟩ := (Ext.fold (flT l) (unis l) (begT S l)).trans hE
  rw [hd] at hx
  rcases List.mem_append.1 hx with hx | hx
  · left
    have hc : (begT S l).cs = S.cs ∨ (begT S l).cs = S.cs ++ [(S.b.length : Int)] := by
      show (cut3 S).cs = _ ∨ (cut3 S).cs = _
      unfold cut3
      split
      · exact .inr rfl
      · exact .inl rfl
    rcases hc with hc | hc
    · rw [hc] at hx
      have := hI.low x hx
      omega
    · rw [hc] at hx
      rcases List.mem_append.1 hx with hx | hx
      · have := hI.low x hx
        omega
      · simp at hx
        omega
  · right
    have := hb x hx
    rw [begT_len] at this
    omega

/-- Only cuts that stand at a unit are looked at. -/
theorem rdUs_same {b : List UInt8} {cs cs' : List Int} : ∀ (k fl a : Nat) (e : Nat), (rdUs b cs k fl a).2 = (e, 0) → (∀ x : Nat, a ≤ x → x < e → cs.contains (x : Int) = cs'.contains (x : Int)) → rdUs b cs' k fl a = rdUs b cs k fl a ∧ a ≤ e
  | 0, fl, a, e, h, _ => by
    simp only [rdUs] at h
    injection h with h
    exact ⟨rfl, by omega⟩
  | k + 1, fl, a, e, h, hs => by
    rw [rdUs] at h ⊢
    by_cases h1 : (rdA b cs fl a).2.2 = 0
    · rw [if_pos h1] at h
      by_cases h2 : (rdU1 b cs (rdA b cs fl a).1 (rdA b cs fl a).2.1).2.2 = 0
      · rw [if_pos h2] at h
        simp only at h
        -- where the flags and the unit end
        have hA : a ≤ (rdA b cs fl a).2.1 := by
          unfold rdA at h1 ⊢
          split
          · rename_i hc
            rw [if_pos hc] at h1
            have := (rdF_at b a h1).1
            omega
          · exact Nat.le_refl _
        have hU : (rdA b cs fl a).2.1 < (rdU1 b cs (rdA b cs fl a).1 (rdA b cs fl a).2.1).2.1 ∧ ((rdA b cs fl a).1 ≠ 0 → (rdA b cs fl a).2.1 + 2 ≤ (rdU1 b cs (rdA b cs fl a).1 (rdA b cs fl a).2.1).2.1) := by
          generalize (rdA b cs fl a).2.1 = a2 at *
          generalize (rdA b cs fl a).1 = f2 at *
          unfold rdU1 at h2 ⊢
          split
          · rename_i h0
            rw [if_pos h0] at h2
            split
            · exact ⟨by simp, fun h => absurd h0 h⟩
            · rename_i h3
              rw [if_neg h3] at h2
              cases h2
          · rename_i h0
            rw [if_neg h0] at h2
            split
            · rename_i h3
              rw [if_pos h3] at h2
              split
              · rename_i h4
                rw [if_pos h4] at h2
                cases h2
              · exact ⟨by simp, fun _ => by simp⟩
            · rename_i h3
              rw [if_neg h3] at h2
              cases h2
        -- the rest ends no earlier: first with the same cuts
        have hrec := rdUs_same (cs := cs) (cs' := cs) k _ _ e h (fun _ _ _ => rfl)
        have hle := hrec.2
        have eA : rdA b cs' fl a = rdA b cs fl a := by
          unfold rdA
          rw [hs a (Nat.le_refl _) (by omega)]
        rw [eA, if_pos h1]
        have eU : rdU1 b cs' (rdA b cs fl a).1 (rdA b cs fl a).2.1 = rdU1 b cs (rdA b cs fl a).1 (rdA b cs fl a).2.1 := by
          by_cases h0 : (rdA b cs fl a).1 = 0
          · rw [h0]; rfl
          · have := hU.2 h0
            unfold rdU1
            have e3 := hs ((rdA b cs fl a).2.1 + 1) (by omega) (by omega)
            push_cast at e3
            rw [e3]
        rw [eU, if_pos h2]
        have hr2 := rdUs_same (cs := cs) (cs' := cs') k _ _ e h (fun x hx1 hx2 => hs x (by omega) hx2)
        rw [hr2.1]
        refine ⟨?_, by omega⟩
        rw [rdUs, if_pos h1, if_pos h2]
      · rw [if_neg h2] at h
        simp only at h
        injection h with h3 h4
        exact absurd h4 h2
    · rw [if_neg h1] at h
      simp only at h
      injection h with h3 h4
      exact absurd h4 h1
theorem rdS_same {b l : List UInt8} {cs cs' : List Int} {p e : Nat} (h : rdS b cs p = (l, e, 0)) (hs : ∀ x : Nat, p + 3 ≤ x → x < e → cs.contains (x : Int) = cs'.contains (x : Int)) : rdS b cs' p = (l, e, 0) := by
  rw [← h]
  have hall : rdAll b cs' p = rdAll b cs p := by
    unfold rdS at h
    by_cases h1 : (rdAll b cs p).2.2 = 0
    · rw [if_pos h1] at h
      by_cases h2 : (jn (rdAll b cs p).1).isSome = true
      · rw [if_pos h2] at h
        injection h with h3 h4
        injection h4 with h4 h5
        unfold rdAll at h1 h4 ⊢
        by_cases g1 : p + 1 < b.length
        · rw [if_pos g1] at h1 h4 ⊢
          rw [if_pos g1]
          by_cases g2 : 1000 < (b.getD p 0).toNat + 256 * (b.getD (p + 1) 0).toNat
          · rw [if_pos g2] at h1
            cases h1
          · rw [if_neg g2] at h1 h4 ⊢
            rw [if_neg g2]
            by_cases g3 : (rdF b (p + 2)).2.2 = 0
            · rw [if_pos g3] at h1 h4 ⊢
              rw [if_pos g3]
              have ge := (rdF_at b (p + 2) g3).1
              refine (rdUs_same _ _ _ e (Prod.ext h4 h1) fun x hx1 hx2 => hs x (by omega) hx2).1
            · rw [if_neg g3, if_neg g3]
        · rw [if_neg g1, if_neg g1]
      · rw [if_neg h2] at h
        injection h with h3 h4
        injection h4 with h4 h5
        cases h5
    · rw [if_neg h1] at h
      injection h with h3 h4
      injection h4 with h4 h5
      exact absurd h5 h1
  unfold rdS
  rw [hall]
end Go.Proofs.YtllcecnkbndokaaGreatDoor
namespace Go.Proofs.YtllcecnkbndokaaGreatDoor
open Go.Lib

/-- n texts from a place on: which, the place behind them, what is wrong. -/
def rdTs (b : List UInt8) (cs : List Int) : Nat → Nat → List (List UInt8) × Nat × Int
  | 0, a => ([], a, 0)
  | n + 1, a =>
    if cs.contains ((a : Int) + 1) = true ∨ cs.contains ((a : Int) + 2) = true then ([], a, 2)
    else if (rdS b cs a).2.2 = 0 then ((rdS b cs a).1 :: (rdTs b cs n (rdS b cs a).2.1).1, (rdTs b cs n (rdS b cs a).2.1).2)
    else ([], a, (rdS b cs a).2.2)

theorem putT_len (S : LS) (l : List UInt8) : S.b.length + 3 ≤ (putT S l).b.length := by
  obtain ⟨⟨q, hq⟩, -⟩ := Ext.fold (flT l) (unis l) (begT S l)
  show _ ≤ (List.foldl (putU (flT l)) (begT S l) (unis l)).b.length
  rw [hq, List.length_append, begT_len]
  omega
theorem places_ge : ∀ (ls : List (List UInt8)) (S : LS), ∀ y ∈ placesT S ls, S.b.length ≤ y
  | [], _, y, hy => by cases hy
  | l :: ls, S, y, hy => by
    rcases List.mem_cons.1 hy with rfl | hy
    · exact Nat.le_refl _
    · have := places_ge ls (putT S l) y hy
      have := putT_len S l
      omega
theorem places_len : ∀ (ls : List (List UInt8)) (S : LS), (placesT S ls).length = ls.length
  | [], _ => rfl
  | l :: ls, S => by simp [placesT, places_len ls]
/-- Places rise, three apart at least. -/
theorem places_rise : ∀ (ls : List (List UInt8)) (S : LS), (placesT S ls).Pairwise fun x y => x + 3 ≤ y
  | [], _ => .nil
  | l :: ls, S => by
    rw [placesT, List.pairwise_cons]
    refine ⟨fun y hy => ?_, places_rise ls _⟩
    have := places_ge ls (putT S l) y hy
    have := putT_len S l
    omega
theorem places_no {S : LS} {l : List UInt8} {ls : List (List UInt8)} {x : Nat} (h1 : S.b.length < x) (h2 : x < (putT S l).b.length) : x ∉ placesT S (l :: ls) := by
  intro h
  rcases List.mem_cons.1 h with rfl | h
  · omega
  · have := places_ge ls (putT S l) x h
    omega

/-- All texts are read as they were: by any cuts that differ at most at texts' places. -/
theorem lays_back : ∀ (ls : List (List UInt8)) (S T : LS) (cs' : List Int), Inv S → (∀ l ∈ ls, uE l = 0) → Ext (layT S ls) T →
    (∀ x : Nat, S.b.length ≤ x → x < (layT S ls).b.length → x ∉ placesT S ls → cs'.contains (x : Int) = T.cs.contains (x : Int)) →
    rdTs T.b cs' ls.length S.b.length = (ls, (layT S ls).b.length, 0)
  | [], S, T, cs', _, _, _, _ => rfl
  | l :: ls, S, T, cs', hI, h0, hE, hc => by
    have hE1 : Ext (putT S l) T := (Ext.lay ls (putT S l)).trans hE
    have hlen := putT_len S l
    obtain ⟨⟨qe, hqe⟩, -⟩ := Ext.lay ls (putT S l)
    have hle : (putT S l).b.length ≤ (layT S (l :: ls)).b.length := by
      show _ ≤ (layT (putT S l) ls).b.length
      rw [hqe, List.length_append]
      omega
    have hb := lay_back hI (h0 l (by simp)) hE1
    have hh := lay_head hI hE1
    have hin : ∀ x : Nat, S.b.length < x → x < (putT S l).b.length → cs'.contains (x : Int) = T.cs.contains (x : Int) := fun x h1 h2 => hc x (by omega) (by omega) (places_no h1 h2)
    have hno : ∀ k : Nat, 0 < k → k < 3 → cs'.contains ((S.b.length : Int) + (k : Int)) = false := by
      intro k k0 k3
      have := hin (S.b.length + k) (by omega) (by omega)
      push_cast at this
      rw [this]
      refine contains_no fun y hy => ?_
      have := hh y hy
      omega
    have hb' := rdS_same (cs' := cs') hb fun x h1 h2 => (hin x (by omega) h2).symm
    have hrec := lays_back ls (putT S l) T cs' (hI.putT l) (fun x hx => h0 x (List.mem_cons_of_mem _ hx)) hE (fun x h1 h2 h3 => hc x (by omega) h2 (by
      intro h
      rcases List.mem_cons.1 h with rfl | h
      · omega
      · exact h3 h))
    show rdTs T.b cs' (ls.length + 1) S.b.length = _
    rw [rdTs, if_neg (by
      have n1 := hno 1 (by omega) (by omega)
      have n2 := hno 2 (by omega) (by omega)
      rintro (h | h)
      · rw [show ((S.b.length : Int) + 1) = (S.b.length : Int) + ((1 : Nat) : Int) from rfl, n1] at h; cases h
      · rw [show ((S.b.length : Int) + 2) = (S.b.length : Int) + ((2 : Nat) : Int) from rfl, n2] at h; cases h), hb', if_pos rfl, hrec]
    rfl

/-- Ahead of all texts: how many uses, how many texts. -/
def begS (u n : List UInt8) : LS := ⟨u ++ n, [], 0⟩
theorem begS_inv {u n : List UInt8} (hu : u.length = 4) (hn : n.length = 4) : Inv (begS u n) := by
  have hl : (begS u n).b.length = 8 := by simp [begS, hu, hn]
  exact ⟨fun x hx => (by cases hx), .nil, Nat.zero_le _, by rw [hl]; simp [begS], .inl ⟨rfl, rfl⟩, fun i x y hx _ => (by simp [begS] at hx), fun x hx => (by simp [begS] at hx), by omega⟩
/-- What is made of any texts keeps to a record's bounds, but for its length. -/
theorem lay_bounds {S : LS} (h : Inv S) : (∀ i x, S.cs[i]? = some x → (if i = 0 then 0 else S.cs.getD (i - 1) 0) < x ∧ x < (S.b.length : Int) ∧ x - (if i = 0 then 0 else S.cs.getD (i - 1) 0) ≤ 224) ∧ (S.b.length : Int) - S.cs.getLastD 0 ≤ 224 := by
  refine ⟨fun i x hx => ?_, ?_⟩
  · have hm := h.low x (List.mem_of_getElem? hx)
    cases i with
    | zero =>
      have := h.first x hx
      simp
      omega
    | succ i =>
      have hl := (List.getElem?_eq_some_iff.1 hx).1
      have hy : S.cs[i]? = some S.cs[i] := List.getElem?_eq_getElem (by omega)
      have hg : S.cs.getD i 0 = S.cs[i] := by simp [List.getD, hy]
      have hf := h.far i _ _ hy hx
      have ha := (List.pairwise_iff_getElem.1 h.apart) i (i + 1) (by omega) hl (by omega)
      have hxe : S.cs[i + 1] = x := (List.getElem?_eq_some_iff.1 hx).2
      rw [hxe] at ha
      rw [if_neg (by omega), Nat.add_sub_cancel, hg]
      omega
  · have h1 := h.part
    have h2 := h.bg
    rcases h.last with ⟨h3, h4⟩ | h3
    · rw [h3]; simp; omega
    · rw [List.getLastD_eq_getLast?, h3]
      simp
      omega
end Go.Proofs.YtllcecnkbndokaaGreatDoor
