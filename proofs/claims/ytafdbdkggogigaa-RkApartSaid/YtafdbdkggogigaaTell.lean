/- dec: tell, Norm by their contracts. Condition: within the bits. -/
import Derived.Test.YtafdbdkggogigaaW4
import Derived.Test.YtafdbdkggogigaaCk
namespace Go.Proofs.Ytafdbdkggogigaa
open Go.RowKit

/-- A decimal and an error, as a call tells them. -/
def dv (r : DR) : Value := .tuple #[.agg #[.int .i64 r.m, .int .i64 (r.s : Nat)], .int .i64 (r.e : Nat)]
theorem dv_parts (r : DR) : dv r = .tuple #[.agg #[.int .i64 r.m, .int .i64 (r.s : Nat)], .int .i64 (r.e : Nat)] := rfl

theorem tell_any {w : World} {b : Bool} {n s : Nat} (hn : n < 340282366920938463463374607431768211456) (hs : s ≤ 1000) :
    Calls Try.prog 20 #[wd b n, .int .i64 s] w fun e w' => e = .returned (dv (tlb b n s)) ∧ Below w.heap.size w w' := by
  have hlt : (strip s n).1 < 340282366920938463463374607431768211456 := by have := strip_le s n; omega
  have HS := Lib.hid (fun w : World => shorten_any (w := w) (b := b) hn hs)
  have HN := Lib.hid (fun w : World => narrow_any (w := w) (b := b) hlt)
  have HT := Lib.hid (show tlb b n s = if (strip s n).1 ≤ most b then ⟨sgn b (strip s n).1, (strip s n).2, 0⟩ else ⟨0, 0, 8⟩ from rfl)
  clear hn hs hlt
  generalize (strip s n).1 = m at *
  generalize (strip s n).2 = t at *
  have H0 : Hid (SB w 2 [(w.heap.size, 51, wc3 b n), (w.heap.size + 1, 23, #[.int .i64 0, .int .i64 0])] ((w.alloc (.cells #[.bool b, .int .u64 (hi n : Nat), .int .u64 (lo n : Nat)] 51)).alloc (.cells #[.int .i64 0, .int .i64 0] 23))) := Lib.hid
    ((sb1 w 51 _).push (by simp) 23 _).swap
  rw [wd_parts b n]
  by_cases hm : m ≤ most b
  · have HV := Lib.hid (show tlb b n s = ⟨sgn b m, t, 0⟩ by rw [HT.out, if_pos hm])
    have HB := Lib.hid (show nrv b m = sgn b m ∧ nrw b m = true by unfold nrv nrw; simp [hm])
    clear hm HT
    go_enter Try.func20, Try.ntmps20
    go_wp2_with fail
    refine (HS.out _).mono ?_
    rintro e w1 ⟨rfl, hb⟩
    rw [wd_parts]
    have hB := H0.out.call hb
    clear H0 hb
    have k1 := hB.bk _ (List.mem_cons_self ..)
    unfold wc3 at k1
    have c10 := k1.cell 0
    have c11 := k1.cell 1
    have c12 := k1.cell 2
    have z10 := k1.frozen 0
    have z11 := k1.frozen 1
    have z12 := k1.frozen 2
    have hne : ∀ x ∈ ([(w.heap.size + 1, 23, #[.int .i64 0, .int .i64 0])] : List (Nat × TypeId × Array Value)), x.1 ≠ w.heap.size := by simp
    unfold wc3 at hB
    have HF := Lib.hid (SB.set3 hB (Nat.le_refl _) hne (.bool b) (.int .u64 (hi m : Nat)) (.int .u64 (lo m : Nat)))
    clear k1 hB hne
    go_wp2_with fail
    refine (HN.out _).mono ?_
    rintro e w2 ⟨rfl, hb⟩
    rw [HB.out.1, HB.out.2]
    have hB := HF.out.call hb
    clear hb HF c10 c11 c12 z10 z11 z12
    have k2 := hB.bk _ (List.mem_cons_of_mem _ (List.mem_cons_self ..))
    have hbel := hB.bel
    have z20 := k2.frozen 0
    have z21 := k2.frozen 1
    have c20 := k2.cell 0
    have c21 := k2.cell 1
    clear k2 hB
    go_wp2
    refine bodyPost_ret (v := .tuple #[.agg #[.int .i64 (sgn b m), .int .i64 (t : Nat)], .int .i64 0]) ?_ rfl ⟨by rw [HV.out]; rfl, (hbel.setCell (by simp) _).setCell (by simp) _⟩
    simp [results, Try.results20, go_sem, c20, c21]
  · have HV := Lib.hid (show tlb b n s = ⟨0, 0, 8⟩ by rw [HT.out, if_neg hm])
    have HB := Lib.hid (show nrv b m = 0 ∧ nrw b m = false by unfold nrv nrw; simp [hm])
    clear hm HT
    go_enter Try.func20, Try.ntmps20
    go_wp2_with fail
    refine (HS.out _).mono ?_
    rintro e w1 ⟨rfl, hb⟩
    rw [wd_parts]
    have hB := H0.out.call hb
    clear H0 hb
    have k1 := hB.bk _ (List.mem_cons_self ..)
    unfold wc3 at k1
    have c10 := k1.cell 0
    have c11 := k1.cell 1
    have c12 := k1.cell 2
    have z10 := k1.frozen 0
    have z11 := k1.frozen 1
    have z12 := k1.frozen 2
    have hne : ∀ x ∈ ([(w.heap.size + 1, 23, #[.int .i64 0, .int .i64 0])] : List (Nat × TypeId × Array Value)), x.1 ≠ w.heap.size := by simp
    unfold wc3 at hB
    have HF := Lib.hid (SB.set3 hB (Nat.le_refl _) hne (.bool b) (.int .u64 (hi m : Nat)) (.int .u64 (lo m : Nat)))
    clear k1 hB hne
    go_wp2_with fail
    refine (HN.out _).mono ?_
    rintro e w2 ⟨rfl, hb⟩
    rw [HB.out.1, HB.out.2]
    have hB := HF.out.call hb
    clear hb HF c10 c11 c12 z10 z11 z12
    have k2 := hB.bk _ (List.mem_cons_of_mem _ (List.mem_cons_self ..))
    have hbel := hB.bel
    have z20 := k2.frozen 0
    have z21 := k2.frozen 1
    have c20 := k2.cell 0
    have c21 := k2.cell 1
    clear k2 hB
    go_wp2
    refine bodyPost_ret (v := .tuple #[.agg #[.int .i64 0, .int .i64 0], .int .i64 8]) ?_ rfl ⟨by rw [HV.out]; rfl, (hbel.setCell (by simp) _).setCell (by simp) _⟩
    simp [results, Try.results20, go_sem, c20, c21]

set_option maxRecDepth 100000 in
set_option maxHeartbeats 2000000 in
theorem norm_any {w : World} {m : Int} {s : Nat} (h0 : -9223372036854775808 ≤ m) (h1 : m ≤ 9223372036854775807) (hs : s ≤ 9) :
    Calls Try.prog 16 #[.agg #[.int .i64 m, .int .i64 (s : Nat)]] w fun e w' => e = .returned (.agg #[.int .i64 (tl m s).m, .int .i64 ((tl m s).s : Nat)]) ∧ Below w.heap.size w w' := by
  have HW := Lib.hid (fun W : World => widen_any (w := W) h0 h1)
  have HT := Lib.hid (fun W : World => tell_any (w := W) (b := decide (m < 0)) (n := m.natAbs) (s := s) (by omega) (by omega))
  have HV := Lib.hid (show tl m s = tlb (decide (m < 0)) m.natAbs s from rfl)
  rw [HV.out]
  clear h0 h1 hs HV
  generalize decide (m < 0) = c at *
  generalize m.natAbs = M at *
  have HSB : Hid (SB w 2 ([((w.heap.size + 1), 23, #[.int .i64 0, .int .i64 0]), (w.heap.size, 23, #[.int .i64 m, .int .i64 (s : Nat)])] : List (Nat × TypeId × Array Value)) ((w.alloc (.cells #[.int .i64 m, .int .i64 (s : Nat)] 23)).alloc (.cells #[.int .i64 0, .int .i64 0] 23))) := Lib.hid ((sb1 w 23 _).push (by simp) 23 _)
  go_enter Try.func16, Try.ntmps16
  go_wp2
  refine wp_region_phases (S := (S2 w 2 ([((w.heap.size + 1), 23, #[.int .i64 0, .int .i64 0]), (w.heap.size, 23, #[.int .i64 m, .int .i64 (s : Nat)])] : List (Nat × TypeId × Array Value)) 23 #[.int .i64 0, .int .i64 0] #[.int .i64 ((tlb c M s)).m, .int .i64 (((tlb c M s)).s : Nat)])) (E := (fun _ _ => True)) [9, 10] [(1, Is (.pointer (some ⟨w.heap.size, 0, none⟩))), (2, Is (.pointer (some ⟨(w.heap.size + 1), 0, none⟩)))] [(6, Is (.pointer (some ⟨w.heap.size, 0, none⟩))), (7, Is (.int .i64 m)), (8, Is (wd c M)), (9, Is (.pointer (some ⟨w.heap.size, 1, none⟩))), (10, Is (.int .i64 (s : Nat))), (11, Is (.tuple #[.agg #[.int .i64 ((tlb c M s)).m, .int .i64 (((tlb c M s)).s : Nat)], .int .i64 (((tlb c M s)).e : Nat)])), (5, Is (.tuple #[.agg #[.int .i64 ((tlb c M s)).m, .int .i64 (((tlb c M s)).s : Nat)], .int .i64 (((tlb c M s)).e : Nat)])), (12, Is (.agg #[.int .i64 ((tlb c M s)).m, .int .i64 (((tlb c M s)).s : Nat)])), (13, Is (.int .i64 (((tlb c M s)).e : Nat))), (4, Is (.int .i64 (((tlb c M s)).e : Nat)))]
    [.op [1] none, .op [6] none, .op [7] none, .op [1] none, .op [9] none, .op [8, 10] none, .op [11] none, .op [5] none, .op [5] none, .phase 0 [] [], .phase 1 [12] [(0, 3)], .op [13] none] (by as_aux_lemma => kernel_rfl) ?_ ?_ ?_ ?_ ?_ ⟨stable_is _ _, stable_is _ _, stable_is _ _, stable_is _ _, stable_is _ _, stable_is _ _, stable_is _ _, stable_is _ _, stable_is _ _, stable_is _ _, stable_is _ _, stable_is _ _, trivial⟩ ?_ (HSB.out.drew) ?_ ?_
  · as_aux_lemma => kernel_rfl
  · as_aux_lemma => kernel_rfl
  · as_aux_lemma => kernel_rfl
  · as_aux_lemma => kernel_rfl
  · as_aux_lemma => kernel_rfl
  · exact ⟨rfl, rfl, trivial⟩
  · refine ⟨?_, ?_, ?_, ?_, ?_, ?_, ?_, ?_, ?_, ?_, ?_, ?_, trivial⟩
    · as_aux_lemma =>
        intro vals a W hS hL
        have e1 : a.tmps.getD 1 undef = .pointer (some ⟨w.heap.size, 0, none⟩) := hL.1
        clear hL
        go_simp
        exact ⟨⟨fun d hd => by injection hd with hd; subst hd; rfl, fun h => by cases h⟩, hS, trivial⟩
    · as_aux_lemma =>
        intro vals a W hS hL
        have e6 : a.tmps.getD 6 undef = .pointer (some ⟨w.heap.size, 0, none⟩) := hL.1
        clear hL
        have kb : Bk W w.heap.size 23 #[.int .i64 m, .int .i64 (s : Nat)] := hS.bk (.tail _ (.head _))
        have f0 := kb.cell 0
        clear kb
        go_simp
        exact ⟨⟨fun d hd => by injection hd with hd; subst hd; rfl, fun h => by cases h⟩, hS, trivial⟩
    · as_aux_lemma =>
        intro vals a W hS hL
        have e7 : a.tmps.getD 7 undef = .int .i64 m := hL.1
        clear hL
        go_simp
        refine (HW.out W).mono ?_
        rintro e W' ⟨rfl, hb⟩
        exact ⟨_, rfl, ⟨fun d hd => by injection hd with hd; subst hd; rfl, fun h => by cases h⟩, hS.call hb, trivial⟩
    · as_aux_lemma =>
        intro vals a W hS hL
        have e1 : a.tmps.getD 1 undef = .pointer (some ⟨w.heap.size, 0, none⟩) := hL.1
        clear hL
        go_simp
        exact ⟨⟨fun d hd => by injection hd with hd; subst hd; rfl, fun h => by cases h⟩, hS, trivial⟩
    · as_aux_lemma =>
        intro vals a W hS hL
        have e9 : a.tmps.getD 9 undef = .pointer (some ⟨w.heap.size, 1, none⟩) := hL.1
        clear hL
        have kb : Bk W w.heap.size 23 #[.int .i64 m, .int .i64 (s : Nat)] := hS.bk (.tail _ (.head _))
        have f1 := kb.cell 1
        clear kb
        go_simp
        exact ⟨⟨fun d hd => by injection hd with hd; subst hd; rfl, fun h => by cases h⟩, hS, trivial⟩
    · as_aux_lemma =>
        intro vals a W hS hL
        have e8 : a.tmps.getD 8 undef = wd c M := hL.1
        have e10 : a.tmps.getD 10 undef = .int .i64 (s : Nat) := hL.2.1
        clear hL
        go_simp
        refine (HT.out W).mono ?_
        rintro e W' ⟨rfl, hb⟩
        exact ⟨_, rfl, ⟨fun d hd => by injection hd with hd; subst hd; rfl, fun h => by cases h⟩, hS.call hb, trivial⟩
    · as_aux_lemma =>
        intro vals a W hS hL
        have e11 : a.tmps.getD 11 undef = .tuple #[.agg #[.int .i64 ((tlb c M s)).m, .int .i64 (((tlb c M s)).s : Nat)], .int .i64 (((tlb c M s)).e : Nat)] := hL.1
        clear hL
        go_simp
        exact ⟨⟨fun d hd => by injection hd with hd; subst hd; rfl, fun h => by cases h⟩, hS, trivial⟩
    · as_aux_lemma =>
        intro vals a W hS hL
        have e5 : a.tmps.getD 5 undef = .tuple #[.agg #[.int .i64 ((tlb c M s)).m, .int .i64 (((tlb c M s)).s : Nat)], .int .i64 (((tlb c M s)).e : Nat)] := hL.1
        clear hL
        go_simp
        exact ⟨⟨fun d hd => by injection hd with hd; subst hd; rfl, fun h => by cases h⟩, hS, trivial⟩
    · as_aux_lemma =>
        intro vals a W hS hL
        have e5 : a.tmps.getD 5 undef = .tuple #[.agg #[.int .i64 ((tlb c M s)).m, .int .i64 (((tlb c M s)).s : Nat)], .int .i64 (((tlb c M s)).e : Nat)] := hL.1
        clear hL
        go_simp
        exact ⟨⟨fun d hd => by injection hd with hd; subst hd; rfl, fun h => by cases h⟩, hS, trivial⟩
    · as_aux_lemma =>
        intro a W vals hv hS hL hp
        clear hL
        match vals, hv, hS with
        | [], _, hS =>
          have hB : SB w 2 ([((w.heap.size + 1), 23, #[.int .i64 0, .int .i64 0]), (w.heap.size, 23, #[.int .i64 m, .int .i64 (s : Nat)])] : List (Nat × TypeId × Array Value)) W := hS
          have hF := hB.alloc 23 #[.int .i64 0, .int .i64 0]
          have hz := hB.size
          go_simp
          exact ⟨⟨_, rfl, hz, hF⟩, trivial, trivial⟩
    · as_aux_lemma =>
        intro a W vals hv hS hL hp
        have e12 : a.tmps.getD 12 undef = .agg #[.int .i64 ((tlb c M s)).m, .int .i64 (((tlb c M s)).s : Nat)] := hL.1
        clear hL
        match vals, hv, hS with
        | [v], _, hS =>
          obtain ⟨g, rfl, hg, hB⟩ := hS
          have e3 := hp.1 (by simp)
          simp only [List.getElem?_cons_zero, Option.some.injEq] at e3
          have kz := hB.bk _ (List.mem_cons_self ..)
          have hlt : ∀ x ∈ ([((w.heap.size + 1), 23, #[.int .i64 0, .int .i64 0]), (w.heap.size, 23, #[.int .i64 m, .int .i64 (s : Nat)])] : List (Nat × TypeId × Array Value)), x.1 ≠ g := by simp <;> omega
          have z0 := kz.frozen 0
          have q0 := kz.cell 0
          have z1 := kz.frozen 1
          have q1 := kz.cell 1
          have hF := hB.set2 (by omega) hlt (.int .i64 ((tlb c M s)).m : Value) (.int .i64 (((tlb c M s)).s : Nat) : Value)
          rw [Array.getD_eq_getD_getElem?] at e12
          rw [Array.getD_eq_getD_getElem?] at e3
          have e3' := e3.symm
          clear e3
          clear hS kz hB
          go_simp
          exact ⟨⟨g, rfl, hg, hF⟩, trivial, trivial⟩
    · as_aux_lemma =>
        intro vals a W hS hL
        have e13 : a.tmps.getD 13 undef = .int .i64 (((tlb c M s)).e : Nat) := hL.1
        clear hL
        go_simp
        exact ⟨⟨fun d hd => by injection hd with hd; subst hd; rfl, fun h => by cases h⟩, hS, trivial⟩
  · intro a W' vals hd hsz hT hF hv hP hS
    obtain ⟨v0, v1, rfl⟩ : ∃ v0 v1, vals = [v0, v1] := by
      match vals, hv with
      | [x, y], _ => exact ⟨x, y, rfl⟩
    obtain ⟨g, hg0, hg, hB⟩ : ∃ g : Nat, v0 = .pointer (some ⟨g, 0, none⟩) ∧ w.heap.size + 2 ≤ g ∧ SB w 2 ([(g, 23, #[.int .i64 ((tlb c M s)).m, .int .i64 (((tlb c M s)).s : Nat)]), ((w.heap.size + 1), 23, #[.int .i64 0, .int .i64 0]), (w.heap.size, 23, #[.int .i64 m, .int .i64 (s : Nat)])] : List (Nat × TypeId × Array Value)) W' := hS
    subst hg0
    have e3 : a.tmps.getD 3 undef = .pointer (some ⟨g, 0, none⟩) := by
      have := hP 0 9 _ 3 rfl (by simp) rfl rfl
      simpa using this.symm
    have e2 : a.tmps.getD 2 undef = .pointer (some ⟨(w.heap.size + 1), 0, none⟩) := hT 2 (by simp)
    clear hT hF hP
    rw [act_lit 15 a hd hsz]
    simp only [List.range, List.range.loop, List.map, e2, e3]
    clear e2 e3
    have k5 := hB.bk _ (List.mem_cons_self ..)
    have c50 := k5.cell 0
    have c51 := k5.cell 1
    clear k5
    have k6 := hB.bk _ (.tail _ (.head _))
    have c60 := k6.cell 0
    have z60 := k6.frozen 0
    have c61 := k6.cell 1
    have z61 := k6.frozen 1
    clear k6
    have hbel := hB.bel
    clear hB
    go_wp2
    refine bodyPost_ret (v := .agg #[.int .i64 (tlb c M s).m, .int .i64 ((tlb c M s).s : Nat)]) ?_ rfl ⟨rfl, (hbel.setCell (by simp) _).setCell (by simp) _⟩
    simp [results, Try.results16, go_sem, c60, c61]
end Go.Proofs.Ytafdbdkggogigaa
