/- slices.Grow of nil, slices.Concat of rows of slots, by their contracts. Each row can be read; all together are few. -/
import Derived.Test.YtkjiokepihmpfaaDoorSk14
set_option linter.unusedVariables false
set_option linter.unusedSimpArgs false
namespace Go.Proofs.YtkjiokepihmpfaaDoor
open Go.RowKit

section
variable {o : Oper} {a : Act} {W : World} {K : Act → World → Prop} {Q : Exit → Act → World → Prop}
theorem stop_apz {s x : Operand} (ho : o.op = .call { callee := .builtin .append, args := #[s, x], argTypes := #[25, 3] }) (h : Hid (o.wp Tryd.prog a W K Q)) : o.wp Tryd.prog a W K Q := h.out
theorem wp_noughts {n base : Nat} (s x : Operand) (ho : o.op = .call { callee := .builtin .append, args := #[s, x], argTypes := #[25, 3] }) (hs : a.eval s = .slice none 0 0) (hx : a.eval x = .int .i64 n) (hn : 0 < n) (h63 : n ≤ 1000000) (hbase : base ≤ W.heap.size)
    (h : ∀ (g c : Nat) (W' : World), n ≤ c → W'.ownsRow base 44 9 (.slice (some ⟨g, 0, none⟩) 0 c) 0 [] → Below W.heap.size W W' → K (a.put o.dst (.slice (some ⟨g, 0, none⟩) n c)) W') : o.wp Tryd.prog a W K Q := by
  obtain ⟨c, W', hc, hrun, ho2, hb⟩ := run_noughts (w := W) slotRow 3 o.type ⟨_, Tryd.underlying3⟩ hn h63 (by omega) hbase
  unfold Oper.wp execOp
  simp only [ho, resolve, invoke, builtin, Sem.run_bind, Sem.run_pure, Result.andThen_ok, List.map_toArray, List.map_cons, List.map_nil, hs, hx, hrun]
  exact h _ c W' hc ho2 hb
end
set_option maxRecDepth 20000 in
set_option maxHeartbeats 4000000 in
theorem grow_any {w : World} (n : Nat) (hn : n ≤ 1000000) : Calls Tryd.prog 75 #[.slice none 0 0, .int .i64 n] w fun e W => ∃ v, e = .returned v ∧ W.ownsRow w.heap.size 44 9 v 0 [] ∧ Below w.heap.size w W := by
  by_cases h0 : n = 0
  · subst h0
    go_enter Tryd.func75, Tryd.ntmps75
    go_wp2
    go_ret
    exact ⟨_, rfl, World.ownsRow_nil _ _ _ _, Below.refl _ _⟩
  · have h1 : 0 < n := by omega
    have h2 : (n : Int) > 0 := by omega
    have h3 : ¬ (n : Int) < 0 := by omega
    go_enter Tryd.func75, Tryd.ntmps75
    repeat' (first | ((with_reducible show Oper.wp _ _ _ _ _ _); refine stop_apz (s := .tmp 20) (x := .tmp 21) rfl ?_) | go_values | go_skip | go_guarded | go_step | go_upon)
    refine Lib.hid ?_
    refine wp_noughts (n := n) (base := w.heap.size) (.tmp 20) (.tmp 21) rfl rfl rfl h1 hn (Nat.le_refl _) ?_
    intro g c W hc ho hb
    have HO := Lib.hid ho
    have HB := Lib.hid hb
    have hc0 : (0 : Int) ≤ (c : Int) := by omega
    clear ho hb
    go_simp
    repeat' (first | go_values | go_skip | go_guarded | go_step | go_upon)
    refine bodyPost_ret (v := .slice (some ⟨g, 0, none⟩) 0 c) (by simp [results, Tryd.results75, go_sem]) rfl ⟨_, rfl, HO.out, HB.out⟩
/-- The first rows, one behind the other. -/
def cat (L : Nat → List Sl) (k : Nat) : List Sl := (List.range k).flatMap L
theorem cat_succ (L : Nat → List Sl) (k : Nat) : cat L (k + 1) = cat L k ++ L k := by unfold cat; rw [List.range_succ, List.flatMap_append, List.flatMap_singleton]
theorem cat_le (L : Nat → List Sl) {k m : Nat} (h : k ≤ m) : (cat L k).length ≤ (cat L m).length := by
  induction m with
  | zero =>
    obtain rfl : k = 0 := by omega
    exact Nat.le_refl _
  | succ m ih =>
    rcases Nat.lt_or_eq_of_le h with h | rfl
    · have := ih (by omega)
      rw [cat_succ, List.length_append]
      omega
    · exact Nat.le_refl _
set_option maxRecDepth 20000 in
set_option maxHeartbeats 4000000 in
theorem concat_any {w : World} {h m B : Nat} {A : Nat → Option Addr} {c : Nat → Nat} {L : Nat → List Sl} (hk : ∀ i, i < m → w.cell? ⟨h, i, none⟩ = some (.slice (A i) (L i).length (c i))) (hh : h < w.heap.size) (hr : ∀ i, i < m → Rd w B 9 (A i) (L i).length (rwc (L i))) (hB : B ≤ w.heap.size) (hl : (cat L m).length ≤ 1000000) (hm : m ≤ 1000) :
    Calls Tryd.prog 51 #[.slice (some ⟨h, 0, none⟩) m m] w fun e W => ∃ v, e = .returned v ∧ W.ownsRow w.heap.size 44 9 v (cat L m).length (rwc (cat L m)) ∧ Below w.heap.size w W := by
  have HK := Lib.hid hk
  have HR := Lib.hid hr
  have HH := Lib.hid hh
  have HBB := Lib.hid hB
  have HL := Lib.hid hl
  clear hk hr hh hB hl
  go_enter Tryd.func51, Tryd.ntmps51
  repeat' (first | go_values | go_skip | go_guarded | go_step | go_upon)
  go_loopw [3, 5, 11] (fun z _ i wr => ∃ k : Nat, i = .int .i64 k ∧ k ≤ m ∧ z = .int .i64 (cat L k).length ∧ wr = w) (fun _ _ i _ => m - (intOf i).toNat)
  case atStart => exact ⟨0, rfl, Nat.zero_le _, rfl, rfl⟩
  case round =>
    obtain ⟨k, rfl, hkm, rfl, hw⟩ := hrel
    have hw := hw.symm
    subst hw
    by_cases hlt : k < m
    · have hlt' : (k : Int) < (m : Int) := by omega
      have hc := HK.out k hlt
      have hle : (cat L (k + 1)).length ≤ 1000000 := Nat.le_trans (cat_le L hlt) HL.out
      have hsum : (cat L (k + 1)).length = (cat L k).length + (L k).length := by rw [cat_succ, List.length_append]
      obtain ⟨n1, hn1⟩ : ∃ n1, n1 = (cat L k).length := ⟨_, rfl⟩
      obtain ⟨n2, hn2⟩ : ∃ n2, n2 = (L k).length := ⟨_, rfl⟩
      rw [← hn1, ← hn2] at hsum
      rw [← hn1]
      rw [← hn2] at hc
      rw [hsum] at hle
      have HS := Lib.hid hsum
      have hn12 := hsum
      clear hn12
      have hp : ¬ ((n1 : Int) + (n2 : Int) < 0) := by omega
      clear hn1 hn2 hsum
      repeat' (first | go_values | go_skip | go_guarded | go_step | go_upon)
      refine ⟨⟨k + 1, by simp, by omega, ?_, trivial⟩, by simp [intOf]; omega⟩
      rw [HS.out]
      simp
    · obtain rfl : k = m := by omega
      have hlt' : ¬ (k : Int) < (k : Int) := by omega
      obtain ⟨n1, hn1⟩ : ∃ n1, n1 = (cat L k).length := ⟨_, rfl⟩
      have hle := HL.out
      rw [← hn1] at hle ⊢
      have HN := Lib.hid hn1
      clear hn1
      repeat' (first | go_values | go_skip | go_guarded | go_step | go_upon)
      refine (grow_any n1 hle).mono ?_
      rintro e W1 ⟨v, rfl, ho, hb⟩
      have HO := Lib.hid ho
      have HB := Lib.hid hb
      clear ho hb
      dsimp only
      repeat' (first | go_values | go_skip | go_guarded | go_step | go_upon)
      go_loopw [6, 8, 27] (fun v _ i W => ∃ j : Nat, i = .int .i64 j ∧ j ≤ k ∧ Hid (W.ownsRow w.heap.size 44 9 v (cat L j).length (rwc (cat L j))) ∧ Hid (Below w.heap.size w W)) (fun _ _ i _ => k - (intOf i).toNat)
      case atStart => exact ⟨0, rfl, Nat.zero_le _, HO, HB⟩
      case round =>
        obtain ⟨j, rfl, hjk, HO, HB⟩ := hrel
        by_cases hlt : j < k
        · have hlt'' : (j : Int) < (k : Int) := by omega
          have hc := (HB.out.cell (p := ⟨h, j, none⟩) HH.out).trans (HK.out j hlt)
          have hj1 : (cat L (j + 1)).length = (cat L j).length + (L j).length := by rw [cat_succ, List.length_append]
          have hjc : rwc (cat L (j + 1)) = rwc (cat L j) ++ rwc (L j) := by rw [cat_succ, rwc_app]
          have hjl : (cat L (j + 1)).length ≤ 1000000 := Nat.le_trans (cat_le L (k := j + 1) (m := k) (by omega)) (by rw [← HN.out]; exact hle)
          obtain ⟨m1, hm1⟩ : ∃ m1, m1 = (cat L j).length := ⟨_, rfl⟩
          obtain ⟨m2, hm2⟩ : ∃ m2, m2 = (L j).length := ⟨_, rfl⟩
          have ho := HO.out
          have hr := (HR.out j hlt).belowMono HB.out HBB.out
          rw [← hm1] at ho
          rw [← hm2] at hr hc
          rw [← hm1, ← hm2] at hj1
          obtain ⟨A6, c6, e6, hc6, -, -⟩ := own_form ho
          subst e6
          have HO2 := Lib.hid ho
          have HR2 := Lib.hid hr
          have HJ := Lib.hid (And.intro hj1 hjc)
          have HM := Lib.hid (show m1 + m2 ≤ 1000000 by omega)
          have HC6 := Lib.hid hc6
          clear ho hr hj1 hjc hjl hm1 hm2 HO hc6
          repeat' (first | ((with_reducible show Oper.wp _ _ _ _ _ _); refine stop_ap (s := .tmp 31) (x := .tmp 32) (t := 25) rfl ?_) | go_values | go_skip | go_guarded | go_step | go_upon)
          refine Lib.hid ?_
          refine wp_app (n := m1) (m := m2) slotRow (.tmp 31) (.tmp 32) rfl rfl rfl HO2.out HR2.out (fun u hu => rwc_one _ u hu) (by have := HM.out; unfold maxLen; omega) (by have := HM.out; omega) HB.out.size fun bb W4 ho4 hg4 hb4 => ?_
          have HB4 := Lib.hid (HB.out.trans hb4)
          have ho5 : W4.ownsRow w.heap.size 44 9 bb (cat L (j + 1)).length (rwc (cat L (j + 1))) := by rw [HJ.out.1, HJ.out.2]; exact ho4
          have HO5 := Lib.hid ho5
          clear ho4 hg4 hb4 ho5 hc
          go_simp
          repeat' (first | go_values | go_skip | go_guarded | go_step | go_upon)
          exact ⟨⟨j + 1, by simp, by omega, HO5, HB4⟩, by simp [intOf]; omega⟩
        · obtain rfl : j = k := by omega
          have hlt'' : ¬ (j : Int) < (j : Int) := by omega
          have ho := HO.out
          rw [← HN.out] at ho
          obtain ⟨A6, c6, e6, hc6, -, -⟩ := own_form ho
          subst e6
          have HO2 := Lib.hid ho
          clear ho hc6
          repeat' (first | go_values | go_skip | go_guarded | go_step | go_upon)
          exact bodyPost_ret (v := .slice A6 n1 c6) (by simp [results, Tryd.results51, go_sem]) rfl ⟨_, rfl, HO.out, HB.out⟩
end Go.Proofs.YtkjiokepihmpfaaDoor

