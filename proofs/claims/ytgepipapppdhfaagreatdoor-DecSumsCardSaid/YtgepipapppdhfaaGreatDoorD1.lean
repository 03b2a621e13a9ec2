/- dec: tell, Check, taken, Int by their contracts. Condition: within the bits. -/
import Derived.Test.YtgepipapppdhfaaGreatDoorW4
namespace Go.Proofs.YtgepipapppdhfaaGreatDoor
open Go.RowKit

/-- A decimal and an error, as a call tells them. -/
def dv (r : DR) : Value := .tuple #[.agg #[.int .i64 r.m, .int .i64 (r.s : Nat)], .int .i64 (r.e : Nat)]
theorem dv_parts (r : DR) : dv r = .tuple #[.agg #[.int .i64 r.m, .int .i64 (r.s : Nat)], .int .i64 (r.e : Nat)] := rfl

theorem tell_any {w : World} {b : Bool} {n s : Nat} (hn : n < 340282366920938463463374607431768211456) (hs : s ≤ 1000) :
    Calls Tryz.prog 26 #[wd b n, .int .i64 s] w fun e w' => e = .returned (dv (tlb b n s)) ∧ Below w.heap.size w w' := by
  have hlt : (strip s n).1 < 340282366920938463463374607431768211456 := by have := strip_le s n; omega
  have HS := Lib.hid (fun w : World => shorten_any (w := w) (b := b) hn hs)
  have HN := Lib.hid (fun w : World => narrow_any (w := w) (b := b) hlt)
  have HT := Lib.hid (show tlb b n s = if (strip s n).1 ≤ most b then ⟨sgn b (strip s n).1, (strip s n).2, 0⟩ else ⟨0, 0, 8⟩ from rfl)
  clear hn hs hlt
  generalize (strip s n).1 = m at *
  generalize (strip s n).2 = t at *
  have H0 : Hid (SB w 2 [(w.heap.size, 46, wc3 b n), (w.heap.size + 1, 23, #[.int .i64 0, .int .i64 0])] ((w.alloc (.cells #[.bool b, .int .u64 (hi n : Nat), .int .u64 (lo n : Nat)] 46)).alloc (.cells #[.int .i64 0, .int .i64 0] 23))) := Lib.hid
    ((sb1 w 46 _).push (by simp) 23 _).swap
  rw [wd_parts b n]
  by_cases hm : m ≤ most b
  · have HV := Lib.hid (show tlb b n s = ⟨sgn b m, t, 0⟩ by rw [HT.out, if_pos hm])
    have HB := Lib.hid (show nrv b m = sgn b m ∧ nrw b m = true by unfold nrv nrw; simp [hm])
    clear hm HT
    go_enter Tryz.func26, Tryz.ntmps26
    go_wp2_with fail
    refine (HS.out _).mono ?_
    rintro e w1 ⟨rfl, hb⟩
    rw [wd_parts]
    have hB := H0.out.call hb
    clear H0 hb
    have k1 := hB.bk _ (List.mem_cons_self ..)
    unfold wc3 at k1
    have c10 := k1.cell 0
    have c11 := k1.cell 1
    have c12 := k1.cell 2
    have z10 := k1.frozen 0
    have z11 := k1.frozen 1
    have z12 := k1.frozen 2
    have hne : ∀ x ∈ ([(w.heap.size + 1, 23, #[.int .i64 0, .int .i64 0])] : List (Nat × TypeId × Array Value)), x.1 ≠ w.heap.size := by simp
    unfold wc3 at hB
    have HF := Lib.hid (SB.set3 hB (Nat.le_refl _) hne (.bool b) (.int .u64 (hi m : Nat)) (.int .u64 (lo m : Nat)))
    clear k1 hB hne
    go_wp2_with fail
    refine (HN.out _).mono ?_
    rintro e w2 ⟨rfl, hb⟩
    rw [HB.out.1, HB.out.2]
    have hB := HF.out.call hb
    clear hb HF c10 c11 c12 z10 z11 z12
    have k2 := hB.bk _ (List.mem_cons_of_mem _ (List.mem_cons_self ..))
    have hbel := hB.bel
    have z20 := k2.frozen 0
    have z21 := k2.frozen 1
    have c20 := k2.cell 0
    have c21 := k2.cell 1
    clear k2 hB
    go_wp2
    refine bodyPost_ret (v := .tuple #[.agg #[.int .i64 (sgn b m), .int .i64 (t : Nat)], .int .i64 0]) ?_ rfl ⟨by rw [HV.out]; rfl, (hbel.setCell (by simp) _).setCell (by simp) _⟩
    simp [results, Tryz.results26, go_sem, c20, c21]
  · have HV := Lib.hid (show tlb b n s = ⟨0, 0, 8⟩ by rw [HT.out, if_neg hm])
    have HB := Lib.hid (show nrv b m = 0 ∧ nrw b m = false by unfold nrv nrw; simp [hm])
    clear hm HT
    go_enter Tryz.func26, Tryz.ntmps26
    go_wp2_with fail
    refine (HS.out _).mono ?_
    rintro e w1 ⟨rfl, hb⟩
    rw [wd_parts]
    have hB := H0.out.call hb
    clear H0 hb
    have k1 := hB.bk _ (List.mem_cons_self ..)
    unfold wc3 at k1
    have c10 := k1.cell 0
    have c11 := k1.cell 1
    have c12 := k1.cell 2
    have z10 := k1.frozen 0
    have z11 := k1.frozen 1
    have z12 := k1.frozen 2
    have hne : ∀ x ∈ ([(w.heap.size + 1, 23, #[.int .i64 0, .int .i64 0])] : List (Nat × TypeId × Array Value)), x.1 ≠ w.heap.size := by simp
    unfold wc3 at hB
    have HF := Lib.hid (SB.set3 hB (Nat.le_refl _) hne (.bool b) (.int .u64 (hi m : Nat)) (.int .u64 (lo m : Nat)))
    clear k1 hB hne
    go_wp2_with fail
    refine (HN.out _).mono ?_
    rintro e w2 ⟨rfl, hb⟩
    rw [HB.out.1, HB.out.2]
    have hB := HF.out.call hb
    clear hb HF c10 c11 c12 z10 z11 z12
    have k2 := hB.bk _ (List.mem_cons_of_mem _ (List.mem_cons_self ..))
    have hbel := hB.bel
    have z20 := k2.frozen 0
    have z21 := k2.frozen 1
    have c20 := k2.cell 0
    have c21 := k2.cell 1
    clear k2 hB
    go_wp2
    refine bodyPost_ret (v := .tuple #[.agg #[.int .i64 0, .int .i64 0], .int .i64 8]) ?_ rfl ⟨by rw [HV.out]; rfl, (hbel.setCell (by simp) _).setCell (by simp) _⟩
    simp [results, Tryz.results26, go_sem, c20, c21]

/-- What Check tells. -/
def ckE (m s : Int) : Int := if s < 0 ∨ 9 < s ∨ (0 < s ∧ m % 10 = 0) then 1 else 0
theorem tmod10 (m : Int) : m.tmod 10 = 0 ↔ m % 10 = 0 := ⟨fun h => Int.emod_eq_zero_of_dvd (Int.dvd_of_tmod_eq_zero h), fun h => Int.tmod_eq_zero_of_dvd (Int.dvd_of_emod_eq_zero h)⟩

theorem check_any {w : World} {m s : Int} :
    Calls Tryz.prog 5 #[.agg #[.int .i64 m, .int .i64 s]] w fun e w' => e = .returned (.int .i64 (ckE m s)) ∧ Below w.heap.size w w' := by
  by_cases h0 : s < 0
  · have HV := Lib.hid (show ckE m s = 1 by unfold ckE; rw [if_pos (.inl h0)])
    go_enter Tryz.func5, Tryz.ntmps5
    go_wp2
    go_ret
    exact ⟨by rw [HV.out]; rfl, bel0 _ _⟩
  · by_cases h9 : 9 < s
    · have HV := Lib.hid (show ckE m s = 1 by unfold ckE; rw [if_pos (.inr (.inl h9))])
      go_enter Tryz.func5, Tryz.ntmps5
      go_wp2
      go_ret
      exact ⟨by rw [HV.out]; rfl, bel0 _ _⟩
    · by_cases hp : 0 < s
      · by_cases hm : m % 10 = 0
        · have HV := Lib.hid (show ckE m s = 1 by unfold ckE; rw [if_pos (.inr (.inr ⟨hp, hm⟩))])
          have hm' : (m.tmod 10 == 0) = true := by simpa using (tmod10 m).2 hm
          clear hm
          go_enter Tryz.func5, Tryz.ntmps5
          go_wp2
          go_ret
          exact ⟨by rw [HV.out]; rfl, bel0 _ _⟩
        · have HV := Lib.hid (show ckE m s = 0 by unfold ckE; rw [if_neg (by omega)])
          have hm' : (m.tmod 10 == 0) = false := by simpa using fun h => hm ((tmod10 m).1 h)
          clear hm
          go_enter Tryz.func5, Tryz.ntmps5
          go_wp2
          go_ret
          exact ⟨by rw [HV.out]; rfl, bel0 _ _⟩
      · have hs : s = 0 := by omega
        subst hs
        have HV := Lib.hid (show ckE m 0 = 0 by unfold ckE; rw [if_neg (by omega)])
        clear h0 h9 hp
        go_enter Tryz.func5, Tryz.ntmps5
        go_wp2
        go_ret
        exact ⟨by rw [HV.out]; rfl, bel0 _ _⟩

theorem Gd.ck {m : Int} {s : Nat} (h : Gd m s) : ckE m s = 0 := by
  have h9 := h.s9
  have hl := h.last
  unfold ckE
  rw [if_neg (by omega)]

theorem bCheck_any {w : World} {m s : Int} :
    Calls Tryz.prog 6 #[.agg #[.int .i64 m, .int .i64 s]] w fun e w' => e = .returned (.int .i64 (ckE m s)) ∧ Below w.heap.size w w' := by
  by_cases h0 : s < 0
  · have HV := Lib.hid (show ckE m s = 1 by unfold ckE; rw [if_pos (.inl h0)])
    go_enter Tryz.func6, Tryz.ntmps6
    go_wp2
    go_ret
    exact ⟨by rw [HV.out]; rfl, bel0 _ _⟩
  · by_cases h9 : 9 < s
    · have HV := Lib.hid (show ckE m s = 1 by unfold ckE; rw [if_pos (.inr (.inl h9))])
      go_enter Tryz.func6, Tryz.ntmps6
      go_wp2
      go_ret
      exact ⟨by rw [HV.out]; rfl, bel0 _ _⟩
    · by_cases hp : 0 < s
      · by_cases hm : m % 10 = 0
        · have HV := Lib.hid (show ckE m s = 1 by unfold ckE; rw [if_pos (.inr (.inr ⟨hp, hm⟩))])
          have hm' : (m.tmod 10 == 0) = true := by simpa using (tmod10 m).2 hm
          clear hm
          go_enter Tryz.func6, Tryz.ntmps6
          go_wp2
          go_ret
          exact ⟨by rw [HV.out]; rfl, bel0 _ _⟩
        · have HV := Lib.hid (show ckE m s = 0 by unfold ckE; rw [if_neg (by omega)])
          have hm' : (m.tmod 10 == 0) = false := by simpa using fun h => hm ((tmod10 m).1 h)
          clear hm
          go_enter Tryz.func6, Tryz.ntmps6
          go_wp2
          go_ret
          exact ⟨by rw [HV.out]; rfl, bel0 _ _⟩
      · have hs : s = 0 := by omega
        subst hs
        have HV := Lib.hid (show ckE m 0 = 0 by unfold ckE; rw [if_neg (by omega)])
        clear h0 h9 hp
        go_enter Tryz.func6, Tryz.ntmps6
        go_wp2
        go_ret
        exact ⟨by rw [HV.out]; rfl, bel0 _ _⟩

/-- Both stand. -/
theorem taken_any {w : World} {m n : Int} {s t : Nat} (hx : Gd m s) (hy : Gd n t) :
    Calls Tryz.prog 25 #[.agg #[.int .i64 m, .int .i64 (s : Nat)], .agg #[.int .i64 n, .int .i64 (t : Nat)]] w fun e w' => e = .returned (.bool true) ∧ Below w.heap.size w w' := by
  have H1 := Lib.hid hx.ck
  have H2 := Lib.hid hy.ck
  clear hx hy
  go_enter Tryz.func25, Tryz.ntmps25
  go_wp2_with fail
  refine check_any.mono ?_
  rintro e w1 ⟨rfl, hb⟩
  rw [H1.out]
  obtain ⟨k1, k2, hb', -⟩ := bx2 hb
  clear hb
  have c20 := k2.cell 0
  have c21 := k2.cell 1
  have hsz := hb'.size
  clear k1 k2
  go_wp2_with fail
  refine check_any.mono ?_
  rintro e w2 ⟨rfl, hb⟩
  rw [H2.out]
  have hb2 := hb'.trans (hb.mono hsz)
  clear c20 c21 hb
  go_wp2
  go_ret
  exact ⟨rfl, hb2⟩

theorem int_any {w : World} {n : Int} :
    Calls Tryz.prog 22 #[.int .i64 n] w fun e w' => e = .returned (.agg #[.int .i64 n, .int .i64 0]) ∧ Below w.heap.size w w' := by
  go_enter Tryz.func22, Tryz.ntmps22
  go_wp2
  exact bodyPost_ret (v := .agg #[.int .i64 n, .int .i64 0]) (by simp [results, Tryz.results22, go_sem]) rfl ⟨rfl, bel0 _ _⟩
end Go.Proofs.YtgepipapppdhfaaGreatDoor
