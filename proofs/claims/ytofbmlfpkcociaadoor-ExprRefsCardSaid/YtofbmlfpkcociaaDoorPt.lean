/- Plain lemmas of the three laws: a part of a tree that may be; brackets; the places of a call. No condition. -/
import Derived.Test.YtofbmlfpkcociaaDoorNe
import Derived.Test.YtofbmlfpkcociaaDoorCo
set_option linter.unusedVariables false
set_option linter.unusedSimpArgs false
namespace Go.Proofs.YtofbmlfpkcociaaDoor

/-- A part of a tree that may be may be, and is less. -/
theorem part_of {f : Pay → Nat → Int} {p : Pay} {ks : List Tr} {t : Tr} (ht : t ∈ ks) (h : ckT f (.mk p ks) = 0) : ckT f t = 0 ∧ dpT t < dpT (.mk p ks) ∧ cntT t < cntT (.mk p ks) := by
  obtain ⟨h1, h2, h3⟩ := ckT_zero.1 h
  have hd := dp_mem ht
  have hc := cnt_mem ht
  have hd' : dpT (.mk p ks) = dpL ks + 1 := rfl
  have hc' : cntT (.mk p ks) = cntL ks + 1 := rfl
  refine ⟨ckT_zero.2 ⟨by omega, by omega, fun q hq => h3 q (List.mem_cons_of_mem _ (nd_mem hq ht))⟩, by omega, by omega⟩

/-- A tree in n brackets. -/
def brk : Nat → Tr → Tr
  | 0, t => t
  | n + 1, t => .mk parP [brk n t]
theorem brk_parts (n : Nat) (t : Tr) : brk n t = .mk (brk n t).pay (brk n t).kids := by
  cases brk n t
  rfl
theorem brk_dp (t : Tr) : ∀ n, dpT (brk n t) = dpT t + n
  | 0 => rfl
  | n + 1 => by
    have := brk_dp t n
    simp only [brk, dpT, dpL]
    omega
theorem brk_cnt (t : Tr) : ∀ n, cntT (brk n t) = cntT t + n
  | 0 => rfl
  | n + 1 => by
    have := brk_cnt t n
    simp only [brk, cntT, cntL]
    omega
theorem par_leaf : leafB parP = false := by kernel_rfl
theorem par_one : oneE parP 1 = 0 := by kernel_rfl
theorem brk_rf (t : Tr) : ∀ n, rfT (brk n t) = rfT t
  | 0 => rfl
  | n + 1 => by
    have := brk_rf t n
    simp [brk, rfT, rfL, par_leaf, this]
theorem brk_nd (t : Tr) : ∀ (n : Nat) (q : Pay × Nat), q ∈ ndT (brk n t) → q = (parP, 1) ∨ q ∈ ndT t
  | 0, _, h => .inr h
  | n + 1, q, h => by
    simp only [brk, ndT, ndL, List.append_nil, List.mem_cons] at h
    rcases h with rfl | h
    · exact .inl rfl
    · exact brk_nd t n q h
theorem brk_ck {t : Tr} {n : Nat} (h : ckT oneE t = 0) (hc : cntT t ≤ 200) (hn : n < 20) : (ckT oneE (brk n t) = 0 ↔ dpT (brk n t) ≤ 16) := by
  rw [ckT_zero, brk_cnt]
  constructor
  · exact fun x => x.1
  · intro hd
    refine ⟨hd, by omega, fun q hq => ?_⟩
    rcases brk_nd t n q hq with rfl | hq
    · exact par_one
    · exact (ckT_zero.1 h).2.2 q hq
theorem brk_same {t : Tr} {n : Nat} : t = brk n t ↔ n = 0 := by
  constructor
  · intro h
    have := congrArg cntT h
    rw [brk_cnt] at this
    omega
  · rintro rfl
    rfl

/-- A call is no place itself: its places are its args', in order. -/
theorem call_leaf (o : Int) : leafB (callP o) = false := by simp [leafB, callP]
theorem call_rf (o : Int) (ks : List Tr) : rfT (.mk (callP o) ks) = rfL ks := by simp [rfT, call_leaf]
theorem rf_kind {ks : List Tr} {p : Pay} (h : p ∈ rfL ks) : 2 ≤ p.kind ∧ p.kind ≤ 6 := by
  have := rf_leafs _ ks (Nat.le_refl _) p h
  simpa [leafB] using this
theorem rf_single (ks : List Tr) (t : Tr) : rfL (ks ++ [t]) = rfL ks ++ rfT t := by
  rw [rf_app]
  simp [rfL]
end Go.Proofs.YtofbmlfpkcociaaDoor
