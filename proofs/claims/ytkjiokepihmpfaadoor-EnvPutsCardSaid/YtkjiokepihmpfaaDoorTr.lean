/- Trees, plainly: how deep, how many, their places; what is left of them on a stack. No program, no condition. -/
import Derived.Test.YtkjiokepihmpfaaDoorMem
set_option linter.unusedVariables false
set_option linter.unusedSimpArgs false
namespace Go.Proofs.YtkjiokepihmpfaaDoor

/-- What a formula has, but for its Kids. -/
structure Pay where
  kind : Int
  vk : Int
  vm : Int
  vs : Int
  vt : ByteArray
  vb : Bool
  ve : Int
  r1 : Int
  c1 : Int
  x1 : Bool
  y1 : Bool
  r2 : Int
  c2 : Int
  x2 : Bool
  y2 : Bool
  sheet : Int
  op : Int

inductive Tr where
  | mk (p : Pay) (ks : List Tr)

namespace Tr
def pay : Tr → Pay
  | mk p _ => p
def kids : Tr → List Tr
  | mk _ ks => ks
end Tr

mutual
def cntT : Tr → Nat
  | .mk _ ks => cntL ks + 1
def cntL : List Tr → Nat
  | [] => 0
  | t :: ts => cntT t + cntL ts
end
mutual
def dpT : Tr → Nat
  | .mk _ ks => dpL ks + 1
def dpL : List Tr → Nat
  | [] => 0
  | t :: ts => max (dpT t) (dpL ts)
end
mutual
def ndT : Tr → List (Pay × Nat)
  | .mk p ks => (p, ks.length) :: ndL ks
def ndL : List Tr → List (Pay × Nat)
  | [] => []
  | t :: ts => ndT t ++ ndL ts
end
/-- Does it stand for places or a Name? -/
def leafB (p : Pay) : Bool := decide (2 ≤ p.kind ∧ p.kind ≤ 6)
mutual
def rfT : Tr → List Pay
  | .mk p ks => if leafB p = true then [p] else rfL ks
def rfL : List Tr → List Pay
  | [] => []
  | t :: ts => rfT t ++ rfL ts
end

mutual
theorem dp_cntT : ∀ t : Tr, dpT t ≤ cntT t
  | .mk _ ks => by
    have := dp_cntL ks
    simp only [dpT, cntT]
    omega
theorem dp_cntL : ∀ l : List Tr, dpL l ≤ cntL l
  | [] => Nat.le_refl _
  | t :: ts => by
    have h1 := dp_cntT t
    have h2 := dp_cntL ts
    simp only [dpL, cntL]
    omega
end
mutual
theorem nd_lenT : ∀ t : Tr, (ndT t).length = cntT t
  | .mk _ ks => by
    have := nd_lenL ks
    simp only [ndT, cntT, List.length_cons]
    omega
theorem nd_lenL : ∀ l : List Tr, (ndL l).length = cntL l
  | [] => rfl
  | t :: ts => by
    have h1 := nd_lenT t
    have h2 := nd_lenL ts
    simp only [ndL, cntL, List.length_append]
    omega
end
theorem cnt_pos (t : Tr) : 1 ≤ cntT t := by cases t; simp [cntT]
theorem dp_pos (t : Tr) : 1 ≤ dpT t := by cases t; simp [dpT]
theorem cnt_len : ∀ l : List Tr, l.length ≤ cntL l
  | [] => Nat.le_refl _
  | t :: ts => by
    have h1 := cnt_pos t
    have h2 := cnt_len ts
    simp only [cntL, List.length_cons]
    omega
theorem cnt_app : ∀ l m : List Tr, cntL (l ++ m) = cntL l + cntL m
  | [], m => by simp [cntL]
  | t :: l, m => by simp only [List.cons_append, cntL, cnt_app l m]; omega
theorem dp_app : ∀ l m : List Tr, dpL (l ++ m) = max (dpL l) (dpL m)
  | [], m => by simp [dpL]
  | t :: l, m => by simp only [List.cons_append, dpL, dp_app l m]; omega
theorem rf_app : ∀ l m : List Tr, rfL (l ++ m) = rfL l ++ rfL m
  | [], m => by simp [rfL]
  | t :: l, m => by simp only [List.cons_append, rfL, rf_app l m, List.append_assoc]
theorem nd_app : ∀ l m : List Tr, ndL (l ++ m) = ndL l ++ ndL m
  | [], m => by simp [ndL]
  | t :: l, m => by simp only [List.cons_append, ndL, nd_app l m, List.append_assoc]
theorem cnt_mem {t : Tr} : ∀ {l : List Tr}, t ∈ l → cntT t ≤ cntL l
  | x :: l, h => by
    simp only [cntL]
    rcases List.mem_cons.1 h with rfl | h
    · omega
    · have := cnt_mem h; omega
theorem dp_mem {t : Tr} : ∀ {l : List Tr}, t ∈ l → dpT t ≤ dpL l
  | x :: l, h => by
    simp only [dpL]
    rcases List.mem_cons.1 h with rfl | h
    · omega
    · have := dp_mem h; omega
theorem nd_mem {t : Tr} {q : Pay × Nat} (hq : q ∈ ndT t) : ∀ {l : List Tr}, t ∈ l → q ∈ ndL l
  | x :: l, h => by
    simp only [ndL, List.mem_append]
    rcases List.mem_cons.1 h with rfl | h
    · exact .inl hq
    · exact .inr (nd_mem hq h)
theorem rf_leafs : ∀ (n : Nat) (l : List Tr), cntL l ≤ n → ∀ p ∈ rfL l, leafB p = true
  | _, [], _, p, hp => by simp [rfL] at hp
  | 0, t :: ts, h, p, hp => by have := cnt_pos t; simp only [cntL] at h; omega
  | n + 1, .mk q ks :: ts, h, p, hp => by
    simp only [cntL, cntT] at h
    simp only [rfL, rfT, List.mem_append] at hp
    rcases hp with hp | hp
    · split at hp
      · simp only [List.mem_singleton] at hp
        subst hp
        assumption
      · exact rf_leafs n ks (by omega) p hp
    · exact rf_leafs n ts (by omega) p hp
theorem rf_len : ∀ (n : Nat) (l : List Tr), cntL l ≤ n → (rfL l).length ≤ cntL l
  | _, [], _ => by simp [rfL]
  | 0, t :: ts, h => by have := cnt_pos t; simp only [cntL] at h; omega
  | n + 1, .mk q ks :: ts, h => by
    simp only [cntL, cntT] at h
    have h1 := rf_len n ks (by omega)
    have h2 := rf_len n ts (by omega)
    simp only [rfL, rfT, cntL, cntT, List.length_append]
    split
    · simp; omega
    · omega

/-- The next one of a stack of rows, the top first; what is left. -/
def popR : List (List Tr) → Option (Tr × List (List Tr))
  | [] => none
  | [] :: r => popR r
  | (t :: ts) :: r => some (t, ts :: r)
def szR : List (List Tr) → Nat
  | [] => 0
  | r :: R => cntL r + szR R
def ndR : List (List Tr) → List (Pay × Nat)
  | [] => []
  | r :: R => ndL r ++ ndR R
def rfR : List (List Tr) → List Pay
  | [] => []
  | r :: R => rfL r ++ rfR R
def dmR : List (List Tr) → Nat
  | [] => 0
  | r :: R => max (if r = [] then 0 else R.length + dpL r) (dmR R)

theorem pop_none : ∀ {L : List (List Tr)}, popR L = none → szR L = 0 ∧ dmR L = 0 ∧ ndR L = [] ∧ rfR L = []
  | [], _ => ⟨rfl, rfl, rfl, rfl⟩
  | [] :: r, h => by
    obtain ⟨h1, h2, h3, h4⟩ := pop_none (L := r) h
    exact ⟨by simp [szR, cntL, h1], by simp [dmR, h2], by simp [ndR, ndL, h3], by simp [rfR, rfL, h4]⟩
  | (t :: ts) :: r, h => by simp [popR] at h
theorem pop_some : ∀ {L R : List (List Tr)} {p : Pay} {ks : List Tr}, popR L = some (.mk p ks, R) →
    szR L = szR (ks :: R) + 1 ∧ dmR L = max R.length (dmR (ks :: R)) ∧ ndR L = (p, ks.length) :: ndR (ks :: R) ∧ rfR L = (if leafB p = true then p :: rfR ([] :: R) else rfR (ks :: R)) ∧ 0 < R.length
  | [], R, p, ks, h => by simp [popR] at h
  | [] :: r, R, p, ks, h => by
    obtain ⟨h1, h2, h3, h4, h5⟩ := pop_some (L := r) h
    exact ⟨by simp [szR, cntL] at *; exact h1, by simp [dmR] at *; exact h2, by simp [ndR, ndL] at *; exact h3, by simp [rfR, rfL] at *; exact h4, h5⟩
  | (t :: ts) :: r, R, p, ks, h => by
    simp only [popR, Option.some.injEq, Prod.mk.injEq] at h
    obtain ⟨rfl, rfl⟩ := h
    refine ⟨by simp only [szR, cntL, cntT]; omega, ?_, by simp [ndR, ndL, ndT], ?_, by simp⟩
    · simp only [dmR, dpL, dpT, List.length_cons, reduceCtorEq, if_false]
      by_cases hk : ks = []
      · subst hk
        by_cases ht : ts = []
        · subst ht; simp only [dpL, if_true]; omega
        · simp only [dpL, ht, if_true, if_false]; omega
      · by_cases ht : ts = []
        · subst ht; simp only [dpL, hk, if_true, if_false]; omega
        · simp only [hk, ht, if_false]; omega
    · simp only [rfR, rfL, rfT]
      split <;> simp
theorem sz_pos {L : List (List Tr)} {x : Tr × List (List Tr)} (h : popR L = some x) : 0 < szR L := by
  obtain ⟨⟨p, ks⟩, R⟩ := x
  have := (pop_some h).1
  omega
theorem pop_same : ∀ {L M : List (List Tr)}, L.map List.length = M.map List.length → (popR L = none ∧ popR M = none ∧ L = M) ∨
    ∃ s R s' R', popR L = some (s, R) ∧ popR M = some (s', R') ∧ R.map List.length = R'.map List.length ∧ (L = M ↔ s = s' ∧ R = R')
  | [], [], _ => .inl ⟨rfl, rfl, rfl⟩
  | [], m :: M, h => by simp at h
  | l :: L, [], h => by simp at h
  | [] :: L, [] :: M, h => by
    rcases pop_same (L := L) (M := M) (by simpa using h) with ⟨h1, h2, h3⟩ | ⟨s, R, s', R', h1, h2, h3, h4⟩
    · exact .inl ⟨h1, h2, by rw [h3]⟩
    · exact .inr ⟨s, R, s', R', h1, h2, h3, by simpa using h4⟩
  | [] :: L, (t :: ts) :: M, h => by simp at h
  | (t :: ts) :: L, [] :: M, h => by simp at h
  | (t :: ts) :: L, (u :: us) :: M, h => .inr ⟨t, ts :: L, u, us :: M, rfl, rfl, by simpa using h, by simp [and_assoc]⟩
/-- Rows that are empty at the top make no difference. -/
theorem pop_nils : ∀ {K L : List (List Tr)}, (∀ r ∈ K, r = []) → popR (K ++ L) = popR L
  | [], L, _ => rfl
  | k :: K, L, h => by
    obtain rfl := h k (List.mem_cons_self ..)
    show popR (K ++ L) = popR L
    exact pop_nils fun r hr => h r (List.mem_cons_of_mem _ hr)

/-- The first error of a row of nodes. -/
def chk (f : Pay → Nat → Int) : List (Pay × Nat) → Int
  | [] => 0
  | (p, n) :: l => if f p n = 0 then chk f l else f p n
theorem chk_zero {f : Pay → Nat → Int} : ∀ {l : List (Pay × Nat)}, chk f l = 0 ↔ ∀ q ∈ l, f q.1 q.2 = 0
  | [] => by simp [chk]
  | (p, n) :: l => by
    simp only [chk, List.mem_cons, forall_eq_or_imp]
    by_cases h : f p n = 0
    · rw [if_pos h, chk_zero]; simp [h]
    · rw [if_neg h]; simp [h]
/-- What Check tells, by what each node is told as. -/
def ckT (f : Pay → Nat → Int) (t : Tr) : Int := if 16 < dpT t then 11 else if 1024 < cntT t then 4 else chk f (ndT t)
theorem ckT_zero {f : Pay → Nat → Int} {t : Tr} : ckT f t = 0 ↔ dpT t ≤ 16 ∧ cntT t ≤ 1024 ∧ ∀ q ∈ ndT t, f q.1 q.2 = 0 := by
  unfold ckT
  by_cases h : 16 < dpT t
  · rw [if_pos h]; omega
  · rw [if_neg h]
    by_cases h' : 1024 < cntT t
    · rw [if_pos h']; omega
    · rw [if_neg h', chk_zero]
      exact ⟨fun x => ⟨by omega, by omega, x⟩, fun x => x.2.2⟩
end Go.Proofs.YtkjiokepihmpfaaDoor
