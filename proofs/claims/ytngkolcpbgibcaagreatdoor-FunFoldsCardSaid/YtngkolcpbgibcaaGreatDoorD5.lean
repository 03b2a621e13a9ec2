/- dec: tell, Check, taken, Int by their contracts. Condition: within the bits. -/
/- cmp.Compare at three types; val's rank, truthText, faultText, Fault, own, filled, Same; the law's N, S, by their contracts. No condition. -/
/- dec: full, Add, Sub, Compare, Norm by their contracts. Condition: what is handed in stands. -/
/- dec: Mul by its contract. Condition: what is handed in stands. -/
/- dec: Div by its contract. Condition: what is handed in stands. -/
/- dec: Floor, Round by their contracts. Condition: what is handed in stands. -/
import Derived.Test.YtngkolcpbgibcaaGreatDoorW4
import Derived.Test.YtngkolcpbgibcaaGreatDoorJoin
set_option linter.unusedVariables false
set_option linter.unusedSimpArgs false
namespace Go.Proofs.YtngkolcpbgibcaaGreatDoor
open Go.RowKit
def dv (r : DR) : Value := .tuple #[.agg #[.int .i64 r.m, .int .i64 (r.s : Nat)], .int .i64 (r.e : Nat)]
theorem dv_parts (r : DR) : dv r = .tuple #[.agg #[.int .i64 r.m, .int .i64 (r.s : Nat)], .int .i64 (r.e : Nat)] := rfl
theorem tell_any {w : World} {b : Bool} {n s : Nat} (hn : n < 340282366920938463463374607431768211456) (hs : s ≤ 1000) :
    Calls Tryz.prog 87 #[wd b n, .int .i64 s] w fun e w' => e = .returned (dv (tlb b n s)) ∧ Below w.heap.size w w' := by
  have hlt : (strip s n).1 < 340282366920938463463374607431768211456 := by have := strip_le s n; omega
  have HS := Lib.hid (fun w : World => shorten_any (w := w) (b := b) hn hs); have HN := Lib.hid (fun w : World => narrow_any (w := w) (b := b) hlt); have HT := Lib.hid (show tlb b n s = if (strip s n).1 ≤ most b then ⟨sgn b (strip s n).1, (strip s n).2, 0⟩ else ⟨0, 0, 8⟩ from rfl); clear hn hs hlt; generalize (strip s n).1 = m at *; generalize (strip s n).2 = t at *
  have H0 : Hid (SB w 2 [(w.heap.size, 119, wc3 b n), (w.heap.size + 1, 30, #[.int .i64 0, .int .i64 0])] ((w.alloc (.cells #[.bool b, .int .u64 (hi n : Nat), .int .u64 (lo n : Nat)] 119)).alloc (.cells #[.int .i64 0, .int .i64 0] 30))) := Lib.hid
    ((sb1 w 119 _).push (by simp) 30 _).swap
  rw [wd_parts b n]
  by_cases hm : m ≤ most b
  · have HV := Lib.hid (show tlb b n s = ⟨sgn b m, t, 0⟩ by rw [HT.out, if_pos hm]); have HB := Lib.hid (show nrv b m = sgn b m ∧ nrw b m = true by unfold nrv nrw; simp [hm]); clear hm HT; go_enter Tryz.func87, Tryz.ntmps87
    go_wp2_with fail
    refine (HS.out _).mono ?_; rintro e w1 ⟨rfl, hb⟩; rw [wd_parts]; have hB := H0.out.call hb; clear H0 hb; have k1 := hB.bk _ (List.mem_cons_self ..); unfold wc3 at k1; have c10 := k1.cell 0; have c11 := k1.cell 1; have c12 := k1.cell 2; have z10 := k1.frozen 0; have z11 := k1.frozen 1; have z12 := k1.frozen 2; have hne : ∀ x ∈ ([(w.heap.size + 1, 30, #[.int .i64 0, .int .i64 0])] : List (Nat × TypeId × Array Value)), x.1 ≠ w.heap.size := by simp
    unfold wc3 at hB; have HF := Lib.hid (SB.set3 hB (Nat.le_refl _) hne (.bool b) (.int .u64 (hi m : Nat)) (.int .u64 (lo m : Nat))); clear k1 hB hne
    go_wp2_with fail
    refine (HN.out _).mono ?_; rintro e w2 ⟨rfl, hb⟩; rw [HB.out.1, HB.out.2]; have hB := HF.out.call hb; clear hb HF c10 c11 c12 z10 z11 z12; have k2 := hB.bk _ (List.mem_cons_of_mem _ (List.mem_cons_self ..)); have hbel := hB.bel; have z20 := k2.frozen 0; have z21 := k2.frozen 1; have c20 := k2.cell 0; have c21 := k2.cell 1; clear k2 hB; go_wp2; refine bodyPost_ret (v := .tuple #[.agg #[.int .i64 (sgn b m), .int .i64 (t : Nat)], .int .i64 0]) ?_ rfl ⟨by rw [HV.out]; rfl, (hbel.setCell (by simp) _).setCell (by simp) _⟩; simp [results, Tryz.results87, go_sem, c20, c21]
  · have HV := Lib.hid (show tlb b n s = ⟨0, 0, 8⟩ by rw [HT.out, if_neg hm]); have HB := Lib.hid (show nrv b m = 0 ∧ nrw b m = false by unfold nrv nrw; simp [hm]); clear hm HT; go_enter Tryz.func87, Tryz.ntmps87
    go_wp2_with fail
    refine (HS.out _).mono ?_; rintro e w1 ⟨rfl, hb⟩; rw [wd_parts]; have hB := H0.out.call hb; clear H0 hb; have k1 := hB.bk _ (List.mem_cons_self ..); unfold wc3 at k1; have c10 := k1.cell 0; have c11 := k1.cell 1; have c12 := k1.cell 2; have z10 := k1.frozen 0; have z11 := k1.frozen 1; have z12 := k1.frozen 2; have hne : ∀ x ∈ ([(w.heap.size + 1, 30, #[.int .i64 0, .int .i64 0])] : List (Nat × TypeId × Array Value)), x.1 ≠ w.heap.size := by simp
    unfold wc3 at hB; have HF := Lib.hid (SB.set3 hB (Nat.le_refl _) hne (.bool b) (.int .u64 (hi m : Nat)) (.int .u64 (lo m : Nat))); clear k1 hB hne
    go_wp2_with fail
    refine (HN.out _).mono ?_; rintro e w2 ⟨rfl, hb⟩; rw [HB.out.1, HB.out.2]; have hB := HF.out.call hb; clear hb HF c10 c11 c12 z10 z11 z12; have k2 := hB.bk _ (List.mem_cons_of_mem _ (List.mem_cons_self ..)); have hbel := hB.bel; have z20 := k2.frozen 0; have z21 := k2.frozen 1; have c20 := k2.cell 0; have c21 := k2.cell 1; clear k2 hB; go_wp2; refine bodyPost_ret (v := .tuple #[.agg #[.int .i64 0, .int .i64 0], .int .i64 8]) ?_ rfl ⟨by rw [HV.out]; rfl, (hbel.setCell (by simp) _).setCell (by simp) _⟩; simp [results, Tryz.results87, go_sem, c20, c21]
def ckE (m s : Int) : Int := if s < 0 ∨ 9 < s ∨ (0 < s ∧ m % 10 = 0) then 1 else 0
theorem tmod10 (m : Int) : m.tmod 10 = 0 ↔ m % 10 = 0 := ⟨fun h => Int.emod_eq_zero_of_dvd (Int.dvd_of_tmod_eq_zero h), fun h => Int.tmod_eq_zero_of_dvd (Int.dvd_of_emod_eq_zero h)⟩
theorem check_any {w : World} {m s : Int} :
    Calls Tryz.prog 63 #[.agg #[.int .i64 m, .int .i64 s]] w fun e w' => e = .returned (.int .i64 (ckE m s)) ∧ Below w.heap.size w w' := by
  by_cases h0 : s < 0
  · have HV := Lib.hid (show ckE m s = 1 by unfold ckE; rw [if_pos (.inl h0)]); go_enter Tryz.func63, Tryz.ntmps63; go_wp2; go_ret; exact ⟨by rw [HV.out]; rfl, bel0 _ _⟩
  · by_cases h9 : 9 < s
    · have HV := Lib.hid (show ckE m s = 1 by unfold ckE; rw [if_pos (.inr (.inl h9))]); go_enter Tryz.func63, Tryz.ntmps63; go_wp2; go_ret; exact ⟨by rw [HV.out]; rfl, bel0 _ _⟩
    · by_cases hp : 0 < s
      · by_cases hm : m % 10 = 0
        · have HV := Lib.hid (show ckE m s = 1 by unfold ckE; rw [if_pos (.inr (.inr ⟨hp, hm⟩))]); have hm' : (m.tmod 10 == 0) = true := by simpa using (tmod10 m).2 hm
          clear hm; go_enter Tryz.func63, Tryz.ntmps63; go_wp2; go_ret; exact ⟨by rw [HV.out]; rfl, bel0 _ _⟩
        · have HV := Lib.hid (show ckE m s = 0 by unfold ckE; rw [if_neg (by omega)]); have hm' : (m.tmod 10 == 0) = false := by simpa using fun h => hm ((tmod10 m).1 h)
          clear hm; go_enter Tryz.func63, Tryz.ntmps63; go_wp2; go_ret; exact ⟨by rw [HV.out]; rfl, bel0 _ _⟩
      · have hs : s = 0 := by omega
        subst hs; have HV := Lib.hid (show ckE m 0 = 0 by unfold ckE; rw [if_neg (by omega)]); clear h0 h9 hp; go_enter Tryz.func63, Tryz.ntmps63; go_wp2; go_ret; exact ⟨by rw [HV.out]; rfl, bel0 _ _⟩
theorem Gd.ck {m : Int} {s : Nat} (h : Gd m s) : ckE m s = 0 := by
  have h9 := h.s9; have hl := h.last; unfold ckE; rw [if_neg (by omega)]
theorem taken_any {w : World} {m n : Int} {s t : Nat} (hx : Gd m s) (hy : Gd n t) :
    Calls Tryz.prog 89 #[.agg #[.int .i64 m, .int .i64 (s : Nat)], .agg #[.int .i64 n, .int .i64 (t : Nat)]] w fun e w' => e = .returned (.bool true) ∧ Below w.heap.size w w' := by
  have H1 := Lib.hid hx.ck; have H2 := Lib.hid hy.ck; clear hx hy; go_enter Tryz.func89, Tryz.ntmps89
  go_wp2_with fail
  refine check_any.mono ?_; rintro e w1 ⟨rfl, hb⟩; rw [H1.out]; obtain ⟨k1, k2, hb', -⟩ := bx2 hb; clear hb; have c20 := k2.cell 0; have c21 := k2.cell 1; have hsz := hb'.size; clear k1 k2
  go_wp2_with fail
  refine check_any.mono ?_; rintro e w2 ⟨rfl, hb⟩; rw [H2.out]; have hb2 := hb'.trans (hb.mono hsz); clear c20 c21 hb; go_wp2; go_ret; exact ⟨rfl, hb2⟩
theorem int_any {w : World} {n : Int} :
    Calls Tryz.prog 32 #[.int .i64 n] w fun e w' => e = .returned (.agg #[.int .i64 n, .int .i64 0]) ∧ Below w.heap.size w w' := by
  go_enter Tryz.func32, Tryz.ntmps32; go_wp2; exact bodyPost_ret (v := .agg #[.int .i64 n, .int .i64 0]) (by simp [results, Tryz.results32, go_sem]) rfl ⟨rfl, bel0 _ _⟩
end Go.Proofs.YtngkolcpbgibcaaGreatDoor
namespace Go.Proofs.YtngkolcpbgibcaaGreatDoor
open Go.RowKit
theorem isNaN_int {w : World} {x : Int} : Calls Tryz.prog 158 #[.int .i64 x] w fun e w' => e = .returned (.bool false) ∧ w' = w := by
  go_enter Tryz.func158, Tryz.ntmps158; go_wp2; go_ret; exact ⟨rfl, rfl⟩
theorem cmp_int {w : World} (x y : Int) : Calls Tryz.prog 83 #[.int .i64 x, .int .i64 y] w fun e w' => e = .returned (.int .i64 (cmp x y)) ∧ w' = w := by
  have HN := Lib.hid (fun (W : World) (z : Int) => isNaN_int (w := W) (x := z)); obtain ⟨c, hc⟩ : ∃ c, cmp x y = c := ⟨_, rfl⟩
  have HC := Lib.hid hc; rw [hc]; clear hc
  rcases Int.lt_trichotomy x y with h | h | h
  · obtain rfl : c = -1 := by rw [← HC.out]; unfold cmp; rw [if_pos h]
    go_enter Tryz.func83, Tryz.ntmps83
    go_wp2_with fail
    refine (HN.out _ _).mono ?_; rintro e w1 ⟨rfl, rfl⟩
    go_wp2_with fail
    refine (HN.out _ _).mono ?_; rintro e w1 ⟨rfl, rfl⟩; go_wp2; go_ret; exact ⟨rfl, rfl⟩
  · subst h; obtain rfl : c = 0 := by rw [← HC.out]; unfold cmp; simp
    go_enter Tryz.func83, Tryz.ntmps83
    go_wp2_with fail
    refine (HN.out _ _).mono ?_; rintro e w1 ⟨rfl, rfl⟩
    go_wp2_with fail
    refine (HN.out _ _).mono ?_; rintro e w1 ⟨rfl, rfl⟩; go_wp2; go_ret; exact ⟨rfl, rfl⟩
  · have h' : ¬ x < y := by omega
    obtain rfl : c = 1 := by rw [← HC.out]; unfold cmp; rw [if_neg h', if_neg (by omega)]
    go_enter Tryz.func83, Tryz.ntmps83
    go_wp2_with fail
    refine (HN.out _ _).mono ?_; rintro e w1 ⟨rfl, rfl⟩
    go_wp2_with fail
    refine (HN.out _ _).mono ?_; rintro e w1 ⟨rfl, rfl⟩; go_wp2; go_ret; exact ⟨rfl, rfl⟩
theorem isNaN_i64 {w : World} {x : Int} : Calls Tryz.prog 160 #[.int .i64 x] w fun e w' => e = .returned (.bool false) ∧ w' = w := by
  go_enter Tryz.func160, Tryz.ntmps160; go_wp2; go_ret; exact ⟨rfl, rfl⟩
theorem cmp_i64 {w : World} (x y : Int) : Calls Tryz.prog 85 #[.int .i64 x, .int .i64 y] w fun e w' => e = .returned (.int .i64 (cmp x y)) ∧ w' = w := by
  have HN := Lib.hid (fun (W : World) (z : Int) => isNaN_i64 (w := W) (x := z)); obtain ⟨c, hc⟩ : ∃ c, cmp x y = c := ⟨_, rfl⟩
  have HC := Lib.hid hc; rw [hc]; clear hc
  rcases Int.lt_trichotomy x y with h | h | h
  · obtain rfl : c = -1 := by rw [← HC.out]; unfold cmp; rw [if_pos h]
    go_enter Tryz.func85, Tryz.ntmps85
    go_wp2_with fail
    refine (HN.out _ _).mono ?_; rintro e w1 ⟨rfl, rfl⟩
    go_wp2_with fail
    refine (HN.out _ _).mono ?_; rintro e w1 ⟨rfl, rfl⟩; go_wp2; go_ret; exact ⟨rfl, rfl⟩
  · subst h; obtain rfl : c = 0 := by rw [← HC.out]; unfold cmp; simp
    go_enter Tryz.func85, Tryz.ntmps85
    go_wp2_with fail
    refine (HN.out _ _).mono ?_; rintro e w1 ⟨rfl, rfl⟩
    go_wp2_with fail
    refine (HN.out _ _).mono ?_; rintro e w1 ⟨rfl, rfl⟩; go_wp2; go_ret; exact ⟨rfl, rfl⟩
  · have h' : ¬ x < y := by omega
    obtain rfl : c = 1 := by rw [← HC.out]; unfold cmp; rw [if_neg h', if_neg (by omega)]
    go_enter Tryz.func85, Tryz.ntmps85
    go_wp2_with fail
    refine (HN.out _ _).mono ?_; rintro e w1 ⟨rfl, rfl⟩
    go_wp2_with fail
    refine (HN.out _ _).mono ?_; rintro e w1 ⟨rfl, rfl⟩; go_wp2; go_ret; exact ⟨rfl, rfl⟩
theorem isNaN_rune {w : World} {x : Int} : Calls Tryz.prog 190 #[.int .i32 x] w fun e w' => e = .returned (.bool false) ∧ w' = w := by
  go_enter Tryz.func190, Tryz.ntmps190; go_wp2; go_ret; exact ⟨rfl, rfl⟩
theorem cmp_rune {w : World} (x y : Int) : Calls Tryz.prog 159 #[.int .i32 x, .int .i32 y] w fun e w' => e = .returned (.int .i64 (cmp x y)) ∧ w' = w := by
  have HN := Lib.hid (fun (W : World) (z : Int) => isNaN_rune (w := W) (x := z)); obtain ⟨c, hc⟩ : ∃ c, cmp x y = c := ⟨_, rfl⟩
  have HC := Lib.hid hc; rw [hc]; clear hc
  rcases Int.lt_trichotomy x y with h | h | h
  · obtain rfl : c = -1 := by rw [← HC.out]; unfold cmp; rw [if_pos h]
    go_enter Tryz.func159, Tryz.ntmps159
    go_wp2_with fail
    refine (HN.out _ _).mono ?_; rintro e w1 ⟨rfl, rfl⟩
    go_wp2_with fail
    refine (HN.out _ _).mono ?_; rintro e w1 ⟨rfl, rfl⟩; go_wp2; go_ret; exact ⟨rfl, rfl⟩
  · subst h; obtain rfl : c = 0 := by rw [← HC.out]; unfold cmp; simp
    go_enter Tryz.func159, Tryz.ntmps159
    go_wp2_with fail
    refine (HN.out _ _).mono ?_; rintro e w1 ⟨rfl, rfl⟩
    go_wp2_with fail
    refine (HN.out _ _).mono ?_; rintro e w1 ⟨rfl, rfl⟩; go_wp2; go_ret; exact ⟨rfl, rfl⟩
  · have h' : ¬ x < y := by omega
    obtain rfl : c = 1 := by rw [← HC.out]; unfold cmp; rw [if_neg h', if_neg (by omega)]
    go_enter Tryz.func159, Tryz.ntmps159
    go_wp2_with fail
    refine (HN.out _ _).mono ?_; rintro e w1 ⟨rfl, rfl⟩
    go_wp2_with fail
    refine (HN.out _ _).mono ?_; rintro e w1 ⟨rfl, rfl⟩; go_wp2; go_ret; exact ⟨rfl, rfl⟩
theorem rank_any {w : World} (b : Bool) : Calls Tryz.prog 86 #[.bool b] w fun e w' => e = .returned (.int .i64 (rk b)) ∧ w' = w := by
  cases b
  · go_enter Tryz.func86, Tryz.ntmps86; go_wp2; go_ret; exact ⟨rfl, rfl⟩
  · go_enter Tryz.func86, Tryz.ntmps86; go_wp2; go_ret; exact ⟨rfl, rfl⟩
def sL (l : List UInt8) : Value := .string ⟨l.toArray⟩
def yesL : List UInt8 := [84, 82, 85, 69]
def noL : List UInt8 := [70, 65, 76, 83, 69]
def trL (b : Bool) : List UInt8 := if b then yesL else noL
theorem truthText_any {w : World} (b : Bool) : Calls Tryz.prog 200 #[.bool b] w fun e w' => e = .returned (sL (trL b)) ∧ w' = w := by
  cases b
  · go_enter Tryz.func200, Tryz.ntmps200; go_wp2; go_ret; exact ⟨rfl, rfl⟩
  · go_enter Tryz.func200, Tryz.ntmps200; go_wp2; go_ret; exact ⟨rfl, rfl⟩
theorem fault_any {w : World} (e : Int) : Calls Tryz.prog 30 #[.int .i64 e] w fun x w' => x = .returned (.agg #[.int .i64 4, .int .i64 0, .int .i64 0, .string ⟨#[]⟩, .bool false, .int .i64 e]) ∧ Below w.heap.size w w' := by
  go_enter Tryz.func30, Tryz.ntmps30; go_wp2; exact bodyPost_ret (v := .agg #[.int .i64 4, .int .i64 0, .int .i64 0, .string ⟨#[]⟩, .bool false, .int .i64 e]) (by simp [results, Tryz.results30, go_sem]) rfl ⟨rfl, bel0 _ _⟩
theorem lS_any {w : World} (t : ByteArray) : Calls Tryz.prog 29 #[.string t] w fun x w' => x = .returned (.agg #[.int .i64 2, .int .i64 0, .int .i64 0, .string t, .bool false, .int .i64 0]) ∧ Below w.heap.size w w' := by
  go_enter Tryz.func29, Tryz.ntmps29; go_wp2; exact bodyPost_ret (v := .agg #[.int .i64 2, .int .i64 0, .int .i64 0, .string t, .bool false, .int .i64 0]) (by simp [results, Tryz.results29, go_sem]) rfl ⟨rfl, bel0 _ _⟩
theorem filled_non {w : World} (k : Int) (m s : Int) (t : ByteArray) (b : Bool) (e : Int) (k' : Int) (m' s' : Int) (t' : ByteArray) (b' : Bool) (e' : Int) (h : ¬ k = 0) : Calls Tryz.prog 82 #[.agg #[.int .i64 k, .int .i64 m, .int .i64 s, .string t, .bool b, .int .i64 e], .agg #[.int .i64 k', .int .i64 m', .int .i64 s', .string t', .bool b', .int .i64 e']] w fun x w' => x = .returned (.agg #[.int .i64 k, .int .i64 m, .int .i64 s, .string t, .bool b, .int .i64 e]) ∧ Below w.heap.size w w' := by
  go_enter Tryz.func82, Tryz.ntmps82; go_wp2; exact bodyPost_ret (v := .agg #[.int .i64 k, .int .i64 m, .int .i64 s, .string t, .bool b, .int .i64 e]) (by simp [results, Tryz.results82, go_sem]) rfl ⟨rfl, bel2 _ _ _ _⟩
theorem filled_blank {w : World} (k' : Int) (m' s' : Int) (t' : ByteArray) (b' : Bool) (e' : Int) (h : ¬ k' = 4) : Calls Tryz.prog 82 #[.agg #[.int .i64 0, .int .i64 0, .int .i64 0, .string ⟨#[]⟩, .bool false, .int .i64 0], .agg #[.int .i64 k', .int .i64 m', .int .i64 s', .string t', .bool b', .int .i64 e']] w fun x w' => x = .returned (.agg #[.int .i64 k', .int .i64 0, .int .i64 0, .string ⟨#[]⟩, .bool false, .int .i64 0]) ∧ Below w.heap.size w w' := by
  go_enter Tryz.func82, Tryz.ntmps82; go_wp2; exact bodyPost_ret (v := .agg #[.int .i64 k', .int .i64 0, .int .i64 0, .string ⟨#[]⟩, .bool false, .int .i64 0]) (by simp [results, Tryz.results82, go_sem]) rfl ⟨rfl, bel2 _ _ _ _⟩
theorem filled_err {w : World} (m' s' : Int) (t' : ByteArray) (b' : Bool) (e' : Int) : Calls Tryz.prog 82 #[.agg #[.int .i64 0, .int .i64 0, .int .i64 0, .string ⟨#[]⟩, .bool false, .int .i64 0], .agg #[.int .i64 4, .int .i64 m', .int .i64 s', .string t', .bool b', .int .i64 e']] w fun x w' => x = .returned (.agg #[.int .i64 0, .int .i64 0, .int .i64 0, .string ⟨#[]⟩, .bool false, .int .i64 0]) ∧ Below w.heap.size w w' := by
  go_enter Tryz.func82, Tryz.ntmps82; go_wp2; exact bodyPost_ret (v := .agg #[.int .i64 0, .int .i64 0, .int .i64 0, .string ⟨#[]⟩, .bool false, .int .i64 0]) (by simp [results, Tryz.results82, go_sem]) rfl ⟨rfl, bel2 _ _ _ _⟩
end Go.Proofs.YtngkolcpbgibcaaGreatDoor
namespace Go.Proofs.YtngkolcpbgibcaaGreatDoor
open Go.RowKit
theorem full_lt {m : Int} {s : Nat} (h : Gd m s) : m.natAbs * 10 ^ (9 - s) ≤ 9223372036854775808000000000 := by
  have h1 := h.lo; have h2 := h.hi; have h3 : 10 ^ (9 - s) ≤ 10 ^ 9 := pow10_le (by omega); exact Nat.le_trans (Nat.mul_le_mul (show m.natAbs ≤ 9223372036854775808 by omega) h3) (by decide)
theorem val_sgn (m : Int) (s : Nat) : sgn (decide (m < 0)) (m.natAbs * 10 ^ (9 - s)) = val m s := by
  rw [sgn_mul, sgn_natAbs]; unfold val; simp
theorem sgn_not (b : Bool) (n : Nat) : sgn (!b) n = -sgn b n := by unfold sgn; cases b <;> simp
set_option maxRecDepth 100000 in
set_option maxHeartbeats 2000000 in
theorem full_any {w : World} {m : Int} {s : Nat} (h : Gd m s) :
    Calls Tryz.prog 92 #[.agg #[.int .i64 m, .int .i64 (s : Nat)]] w fun e w' => e = .returned (wd (decide (m < 0)) (m.natAbs * 10 ^ (9 - s))) ∧ Below w.heap.size w w' := by
  have hf := full_lt h; have hp : 10 ^ (9 - s) ≤ 10 ^ 9 := pow10_le (by omega); have HW := Lib.hid (fun W : World => widen_any (w := W) h.lo h.hi); have HP := Lib.hid (fun W : World => power_b (w := W) (k := 9 - s) (by omega)); have HT := Lib.hid (fun W : World => times_any (w := W) (b := decide (m < 0)) (n := m.natAbs) (k := 10 ^ (9 - s)) (by omega) (by omega)); have HS := Lib.hid (show IntKind.i64.wrap (9 - (s : Int)) = ((9 - s : Nat) : Int) by have := h.s9; rw [show ((9 - s : Nat) : Int) = 9 - (s : Int) by omega]; exact IntWalk.i64_in _ (by omega)); have HSB : Hid (SB w 2 ([((w.heap.size + 1), 119, #[.bool false, .int .u64 0, .int .u64 0]), (w.heap.size, 30, #[.int .i64 m, .int .i64 (s : Nat)])] : List (Nat × TypeId × Array Value)) ((w.alloc (.cells #[.int .i64 m, .int .i64 (s : Nat)] 30)).alloc (.cells #[.bool false, .int .u64 0, .int .u64 0] 119))) := Lib.hid ((sb1 w 30 _).push (by simp) 119 _); clear hf hp h; generalize decide (m < 0) = b at *; generalize m.natAbs = M at *; generalize 10 ^ (9 - s) = K at *; go_enter Tryz.func92, Tryz.ntmps92; go_wp2
  refine wp_region_phases (S := (S1 w 2 ([((w.heap.size + 1), 119, #[.bool false, .int .u64 0, .int .u64 0]), (w.heap.size, 30, #[.int .i64 m, .int .i64 (s : Nat)])] : List (Nat × TypeId × Array Value)) ([((w.heap.size + 1), 119, #[.bool b, .int .u64 (hi (M * K) : Nat), .int .u64 (lo (M * K) : Nat)]), (w.heap.size, 30, #[.int .i64 m, .int .i64 (s : Nat)])] : List (Nat × TypeId × Array Value)))) (E := (fun _ _ => True)) [8] [(1, Is (.pointer (some ⟨w.heap.size, 0, none⟩))), (2, Is (.pointer (some ⟨(w.heap.size + 1), 0, none⟩)))] [(3, Is (.pointer (some ⟨w.heap.size, 0, none⟩))), (4, Is (.int .i64 m)), (5, Is (.agg #[.bool b, .int .u64 (hi (M) : Nat), .int .u64 (lo (M) : Nat)])), (6, Is (.pointer (some ⟨w.heap.size, 1, none⟩))), (7, Is (.int .i64 (s : Nat))), (8, Is (.int .i64 ((9 - s : Nat) : Int))), (9, Is (.int .u64 (K : Nat))), (10, Is (.agg #[.bool b, .int .u64 (hi (M * K) : Nat), .int .u64 (lo (M * K) : Nat)]))]
    [.op [1] none, .op [3] none, .op [4] none, .op [1] none, .op [6] none, .op [7] none, .op [8] none, .op [5, 9] none, .phase 0 [2, 10] []] (by as_aux_lemma => kernel_rfl) ?_ ?_ ?_ ?_ ?_ ⟨stable_is _ _, stable_is _ _, stable_is _ _, stable_is _ _, stable_is _ _, stable_is _ _, stable_is _ _, stable_is _ _, stable_is _ _, stable_is _ _, trivial⟩ ?_ (HSB.out.drew) ?_ ?_
  · as_aux_lemma => kernel_rfl
  · as_aux_lemma => kernel_rfl
  · as_aux_lemma => kernel_rfl
  · as_aux_lemma => kernel_rfl
  · as_aux_lemma => kernel_rfl
  · exact ⟨rfl, rfl, trivial⟩
  · refine ⟨?_, ?_, ?_, ?_, ?_, ?_, ?_, ?_, ?_, trivial⟩
    · as_aux_lemma => intro vals a W hS hL; have e1 : a.tmps.getD 1 undef = .pointer (some ⟨w.heap.size, 0, none⟩) := hL.1; clear hL; go_simp; exact ⟨dstY (by rfl), hS, trivial⟩
    · as_aux_lemma => intro vals a W hS hL; have e3 : a.tmps.getD 3 undef = .pointer (some ⟨w.heap.size, 0, none⟩) := hL.1; clear hL; have kb : Bk W w.heap.size 30 #[.int .i64 m, .int .i64 (s : Nat)] := hS.bk (.tail _ (.head _)) (.tail _ (.head _)); have f0 := kb.cell 0; clear kb; go_simp; exact ⟨dstY (by rfl), hS, trivial⟩
    · as_aux_lemma => intro vals a W hS hL; have e4 : a.tmps.getD 4 undef = .int .i64 m := hL.1; clear hL; go_simp; refine (HW.out W).mono ?_; rintro e W' ⟨rfl, hb⟩; exact ⟨_, rfl, dstY (by rfl), hS.call hb, trivial⟩
    · as_aux_lemma => intro vals a W hS hL; have e1 : a.tmps.getD 1 undef = .pointer (some ⟨w.heap.size, 0, none⟩) := hL.1; clear hL; go_simp; exact ⟨dstY (by rfl), hS, trivial⟩
    · as_aux_lemma => intro vals a W hS hL; have e6 : a.tmps.getD 6 undef = .pointer (some ⟨w.heap.size, 1, none⟩) := hL.1; clear hL; have kb : Bk W w.heap.size 30 #[.int .i64 m, .int .i64 (s : Nat)] := hS.bk (.tail _ (.head _)) (.tail _ (.head _)); have f1 := kb.cell 1; clear kb; go_simp; exact ⟨dstY (by rfl), hS, trivial⟩
    · as_aux_lemma => intro vals a W hS hL; have e7 : a.tmps.getD 7 undef = .int .i64 (s : Nat) := hL.1; clear hL; have hs := HS.out; go_simp; exact ⟨dstY (by rfl), hS, trivial⟩
    · as_aux_lemma => intro vals a W hS hL; have e8 : a.tmps.getD 8 undef = .int .i64 ((9 - s : Nat) : Int) := hL.1; clear hL; go_simp; refine (HP.out W).mono ?_; rintro e W' ⟨rfl, hb⟩; exact ⟨_, rfl, dstY (by rfl), hS.call hb, trivial⟩
    · as_aux_lemma => intro vals a W hS hL; have e5 : a.tmps.getD 5 undef = .agg #[.bool b, .int .u64 (hi (M) : Nat), .int .u64 (lo (M) : Nat)] := hL.1; have e9 : a.tmps.getD 9 undef = .int .u64 (K : Nat) := hL.2.1; clear hL; go_simp; refine (HT.out W).mono ?_; rintro e W' ⟨rfl, hb⟩; exact ⟨_, rfl, dstY (by rfl), hS.call hb, trivial⟩
    · as_aux_lemma =>
        intro a W vals hv hS hL hp; have e2 : a.tmps.getD 2 undef = .pointer (some ⟨(w.heap.size + 1), 0, none⟩) := hL.1; have e10 : a.tmps.getD 10 undef = .agg #[.bool b, .int .u64 (hi (M * K) : Nat), .int .u64 (lo (M * K) : Nat)] := hL.2.1; clear hL
        match vals, hv, hS with
        | [], _, hS =>
          have hB : SB w 2 ([((w.heap.size + 1), 119, #[.bool false, .int .u64 0, .int .u64 0]), (w.heap.size, 30, #[.int .i64 m, .int .i64 (s : Nat)])] : List (Nat × TypeId × Array Value)) W := hS; have kz := hB.bk _ (List.mem_cons_self ..); have hlt : ∀ x ∈ ([(w.heap.size, 30, #[.int .i64 m, .int .i64 (s : Nat)])] : List (Nat × TypeId × Array Value)), x.1 ≠ (w.heap.size + 1) := by simp <;> omega
          have z0 := kz.frozen 0; have q0 := kz.cell 0; have z1 := kz.frozen 1; have q1 := kz.cell 1; have z2 := kz.frozen 2; have q2 := kz.cell 2; have hF := hB.set3 (by omega) hlt (.bool b : Value) (.int .u64 (hi (M * K) : Nat) : Value) (.int .u64 (lo (M * K) : Nat) : Value); rw [Array.getD_eq_getD_getElem?] at e10; clear hS kz hB; go_simp; exact ⟨hF, trivial, trivial⟩
  · intro a W' vals hd hsz hT hF hv _ hS
    obtain ⟨u, rfl⟩ : ∃ u, vals = [u] := by
      match vals, hv with
      | [u], _ => exact ⟨u, rfl⟩
    have hB : SB w 2 ([((w.heap.size + 1), 119, #[.bool b, .int .u64 (hi (M * K) : Nat), .int .u64 (lo (M * K) : Nat)]), (w.heap.size, 30, #[.int .i64 m, .int .i64 (s : Nat)])] : List (Nat × TypeId × Array Value)) W' := hS; have kz := hB.bk _ (List.mem_cons_self ..); have r0 := kz.cell 0; have r1 := kz.cell 1; have r2 := kz.cell 2; clear kz hS; have e2 : a.tmps.getD 2 undef = .pointer (some ⟨(w.heap.size + 1), 0, none⟩) := hT 2 (by simp); clear hT hF; go_wp2; refine bodyPost_ret (v := .agg #[.bool b, .int .u64 (hi (M * K) : Nat), .int .u64 (lo (M * K) : Nat)]) ?_ hd ⟨rfl, hB.bel⟩; rw [Array.getD_eq_getD_getElem?] at e2; simp [results, Tryz.results92, go_sem, e2, r0, r1, r2]
set_option maxRecDepth 100000 in
set_option maxHeartbeats 2000000 in
theorem dadd_any {w : World} {m n : Int} {s t : Nat} (hx : Gd m s) (hy : Gd n t) :
    Calls Tryz.prog 105 #[.agg #[.int .i64 m, .int .i64 (s : Nat)], .agg #[.int .i64 n, .int .i64 (t : Nat)]] w fun e w' => e = .returned (dv (addD m s n t)) ∧ Below w.heap.size w w' := by
  have HK := Lib.hid (fun W : World => taken_any (w := W) hx hy); have HX := Lib.hid (fun W : World => full_any (w := W) hx); have HY := Lib.hid (fun W : World => full_any (w := W) hy); have f1 := full_lt hx; have f2 := full_lt hy
  have HV := Lib.hid (show addD m s n t = tlb (adb (decide (m < 0)) (decide (n < 0)) (m.natAbs * 10 ^ (9 - s)) (n.natAbs * 10 ^ (9 - t))) (adn (decide (m < 0)) (decide (n < 0)) (m.natAbs * 10 ^ (9 - s)) (n.natAbs * 10 ^ (9 - t))) 9 by
    rw [tlb_eq, ad_sgn, val_sgn, val_sgn]; rfl)
  generalize decide (m < 0) = c at *; generalize decide (n < 0) = d at *; generalize m.natAbs * 10 ^ (9 - s) = M at *; generalize n.natAbs * 10 ^ (9 - t) = N at *; have hle := adn_le c d M N; have HA := Lib.hid (fun W : World => add_any (w := W) (a := c) (b := d) (m := M) (n := N) (by omega)); have HT := Lib.hid (fun W : World => tell_any (w := W) (b := adb c d M N) (n := adn c d M N) (s := 9) (by omega) (by omega)); clear f1 f2 hle hx hy; have H0 : Hid (SB w 3 ([((w.heap.size + 1 + 1), 30, #[.int .i64 0, .int .i64 0]), ((w.heap.size + 1), 30, #[.int .i64 n, .int .i64 (t : Nat)]), (w.heap.size, 30, #[.int .i64 m, .int .i64 (s : Nat)])] : List (Nat × TypeId × Array Value)) (((w.alloc (.cells #[.int .i64 m, .int .i64 (s : Nat)] 30)).alloc (.cells #[.int .i64 n, .int .i64 (t : Nat)] 30)).alloc (.cells #[.int .i64 0, .int .i64 0] 30))) := Lib.hid (((sb1 w 30 _).push (by simp) 30 _).push (by simp) 30 _); go_enter Tryz.func105, Tryz.ntmps105
  go_wp2_with fail
  refine (HK.out _).mono ?_; rintro e w1 ⟨rfl, hb⟩; have HSB := Lib.hid (H0.out.call hb); clear H0 hb; go_wp2
  refine wp_region_phases (S := (S1 w 3 ([((w.heap.size + 1 + 1), 30, #[.int .i64 0, .int .i64 0]), ((w.heap.size + 1), 30, #[.int .i64 n, .int .i64 (t : Nat)]), (w.heap.size, 30, #[.int .i64 m, .int .i64 (s : Nat)])] : List (Nat × TypeId × Array Value)) ([((w.heap.size + 1 + 1), 30, #[.int .i64 ((tlb (adb c d M N) (adn c d M N) 9)).m, .int .i64 (((tlb (adb c d M N) (adn c d M N) 9)).s : Nat)]), ((w.heap.size + 1), 30, #[.int .i64 n, .int .i64 (t : Nat)]), (w.heap.size, 30, #[.int .i64 m, .int .i64 (s : Nat)])] : List (Nat × TypeId × Array Value)))) (E := (fun _ _ => True)) [8] [(2, Is (.pointer (some ⟨w.heap.size, 0, none⟩))), (3, Is (.pointer (some ⟨(w.heap.size + 1), 0, none⟩))), (4, Is (.pointer (some ⟨(w.heap.size + 1 + 1), 0, none⟩)))] [(11, Is (.agg #[.int .i64 m, .int .i64 (s : Nat)])), (12, Is (wd c M)), (13, Is (.agg #[.int .i64 n, .int .i64 (t : Nat)])), (14, Is (wd d N)), (15, Is (wd (adb c d M N) (adn c d M N))), (16, Is (.tuple #[.agg #[.int .i64 ((tlb (adb c d M N) (adn c d M N) 9)).m, .int .i64 (((tlb (adb c d M N) (adn c d M N) 9)).s : Nat)], .int .i64 (((tlb (adb c d M N) (adn c d M N) 9)).e : Nat)])), (17, Is (.agg #[.int .i64 ((tlb (adb c d M N) (adn c d M N) 9)).m, .int .i64 (((tlb (adb c d M N) (adn c d M N) 9)).s : Nat)])), (18, Is (.int .i64 (((tlb (adb c d M N) (adn c d M N) 9)).e : Nat))), (5, Is (.int .i64 (((tlb (adb c d M N) (adn c d M N) 9)).e : Nat)))]
    [.op [2] none, .op [11] none, .op [3] none, .op [13] none, .op [12, 14] none, .op [15] none, .op [16] none, .op [16] none, .phase 0 [4, 17] [], .op [18] none] (by as_aux_lemma => kernel_rfl) ?_ ?_ ?_ ?_ ?_ ⟨stable_is _ _, stable_is _ _, stable_is _ _, stable_is _ _, stable_is _ _, stable_is _ _, stable_is _ _, stable_is _ _, stable_is _ _, stable_is _ _, stable_is _ _, stable_is _ _, trivial⟩ ?_ (HSB.out.drew) ?_ ?_
  · as_aux_lemma => kernel_rfl
  · as_aux_lemma => kernel_rfl
  · as_aux_lemma => kernel_rfl
  · as_aux_lemma => kernel_rfl
  · as_aux_lemma => kernel_rfl
  · exact ⟨rfl, rfl, rfl, trivial⟩
  · refine ⟨?_, ?_, ?_, ?_, ?_, ?_, ?_, ?_, ?_, ?_, trivial⟩
    · as_aux_lemma => intro vals a W hS hL; have e2 : a.tmps.getD 2 undef = .pointer (some ⟨w.heap.size, 0, none⟩) := hL.1; clear hL; have kb : Bk W w.heap.size 30 #[.int .i64 m, .int .i64 (s : Nat)] := hS.bk (.tail _ (.tail _ (.head _))) (.tail _ (.tail _ (.head _))); have f0 := kb.cell 0; have f1 := kb.cell 1; clear kb; go_simp; exact ⟨dstY (by rfl), hS, trivial⟩
    · as_aux_lemma => intro vals a W hS hL; have e11 : a.tmps.getD 11 undef = .agg #[.int .i64 m, .int .i64 (s : Nat)] := hL.1; clear hL; go_simp; refine (HX.out W).mono ?_; rintro e W' ⟨rfl, hb⟩; exact ⟨_, rfl, dstY (by rfl), hS.call hb, trivial⟩
    · as_aux_lemma => intro vals a W hS hL; have e3 : a.tmps.getD 3 undef = .pointer (some ⟨(w.heap.size + 1), 0, none⟩) := hL.1; clear hL; have kb : Bk W (w.heap.size + 1) 30 #[.int .i64 n, .int .i64 (t : Nat)] := hS.bk (.tail _ (.head _)) (.tail _ (.head _)); have f0 := kb.cell 0; have f1 := kb.cell 1; clear kb; go_simp; exact ⟨dstY (by rfl), hS, trivial⟩
    · as_aux_lemma => intro vals a W hS hL; have e13 : a.tmps.getD 13 undef = .agg #[.int .i64 n, .int .i64 (t : Nat)] := hL.1; clear hL; go_simp; refine (HY.out W).mono ?_; rintro e W' ⟨rfl, hb⟩; exact ⟨_, rfl, dstY (by rfl), hS.call hb, trivial⟩
    · as_aux_lemma => intro vals a W hS hL; have e12 : a.tmps.getD 12 undef = wd c M := hL.1; have e14 : a.tmps.getD 14 undef = wd d N := hL.2.1; clear hL; go_simp; refine (HA.out W).mono ?_; rintro e W' ⟨rfl, hb⟩; exact ⟨_, rfl, dstY (by rfl), hS.call hb, trivial⟩
    · as_aux_lemma => intro vals a W hS hL; have e15 : a.tmps.getD 15 undef = wd (adb c d M N) (adn c d M N) := hL.1; clear hL; go_simp; refine (HT.out W).mono ?_; rintro e W' ⟨rfl, hb⟩; exact ⟨_, rfl, dstY (by rfl), hS.call hb, trivial⟩
    · as_aux_lemma => intro vals a W hS hL; have e16 : a.tmps.getD 16 undef = .tuple #[.agg #[.int .i64 ((tlb (adb c d M N) (adn c d M N) 9)).m, .int .i64 (((tlb (adb c d M N) (adn c d M N) 9)).s : Nat)], .int .i64 (((tlb (adb c d M N) (adn c d M N) 9)).e : Nat)] := hL.1; clear hL; go_simp; exact ⟨dstY (by rfl), hS, trivial⟩
    · as_aux_lemma => intro vals a W hS hL; have e16 : a.tmps.getD 16 undef = .tuple #[.agg #[.int .i64 ((tlb (adb c d M N) (adn c d M N) 9)).m, .int .i64 (((tlb (adb c d M N) (adn c d M N) 9)).s : Nat)], .int .i64 (((tlb (adb c d M N) (adn c d M N) 9)).e : Nat)] := hL.1; clear hL; go_simp; exact ⟨dstY (by rfl), hS, trivial⟩
    · as_aux_lemma =>
        intro a W vals hv hS hL hp; have e4 : a.tmps.getD 4 undef = .pointer (some ⟨(w.heap.size + 1 + 1), 0, none⟩) := hL.1; have e17 : a.tmps.getD 17 undef = .agg #[.int .i64 ((tlb (adb c d M N) (adn c d M N) 9)).m, .int .i64 (((tlb (adb c d M N) (adn c d M N) 9)).s : Nat)] := hL.2.1; clear hL
        match vals, hv, hS with
        | [], _, hS =>
          have hB : SB w 3 ([((w.heap.size + 1 + 1), 30, #[.int .i64 0, .int .i64 0]), ((w.heap.size + 1), 30, #[.int .i64 n, .int .i64 (t : Nat)]), (w.heap.size, 30, #[.int .i64 m, .int .i64 (s : Nat)])] : List (Nat × TypeId × Array Value)) W := hS; have kz := hB.bk _ (List.mem_cons_self ..); have hlt : ∀ x ∈ ([((w.heap.size + 1), 30, #[.int .i64 n, .int .i64 (t : Nat)]), (w.heap.size, 30, #[.int .i64 m, .int .i64 (s : Nat)])] : List (Nat × TypeId × Array Value)), x.1 ≠ (w.heap.size + 1 + 1) := by simp <;> omega
          have z0 := kz.frozen 0; have q0 := kz.cell 0; have z1 := kz.frozen 1; have q1 := kz.cell 1; have hF := hB.set2 (by omega) hlt (.int .i64 ((tlb (adb c d M N) (adn c d M N) 9)).m : Value) (.int .i64 (((tlb (adb c d M N) (adn c d M N) 9)).s : Nat) : Value); rw [Array.getD_eq_getD_getElem?] at e17; clear hS kz hB; go_simp; exact ⟨hF, trivial, trivial⟩
    · as_aux_lemma => intro vals a W hS hL; have e18 : a.tmps.getD 18 undef = .int .i64 (((tlb (adb c d M N) (adn c d M N) 9)).e : Nat) := hL.1; clear hL; go_simp; exact ⟨dstY (by rfl), hS, trivial⟩
  · intro a W' vals hd hsz hT hF hv _ hS
    obtain ⟨u, rfl⟩ : ∃ u, vals = [u] := by
      match vals, hv with
      | [u], _ => exact ⟨u, rfl⟩
    have hB : SB w 3 ([((w.heap.size + 1 + 1), 30, #[.int .i64 ((tlb (adb c d M N) (adn c d M N) 9)).m, .int .i64 (((tlb (adb c d M N) (adn c d M N) 9)).s : Nat)]), ((w.heap.size + 1), 30, #[.int .i64 n, .int .i64 (t : Nat)]), (w.heap.size, 30, #[.int .i64 m, .int .i64 (s : Nat)])] : List (Nat × TypeId × Array Value)) W' := hS; have kz := hB.bk _ (List.mem_cons_self ..); have r0 := kz.cell 0; have r1 := kz.cell 1; clear kz hS; have e4 : a.tmps.getD 4 undef = .pointer (some ⟨(w.heap.size + 1 + 1), 0, none⟩) := hT 4 (by simp); have e5 : a.tmps.getD 5 undef = .int .i64 (((tlb (adb c d M N) (adn c d M N) 9)).e : Nat) := hT 5 (by simp); clear hT hF; go_wp2; refine bodyPost_ret (v := dv (tlb (adb c d M N) (adn c d M N) 9)) ?_ hd ⟨by rw [HV.out], hB.bel⟩; rw [dv_parts]; rw [Array.getD_eq_getD_getElem?] at e4 e5; simp [results, Tryz.results105, go_sem, e4, e5, r0, r1]
set_option maxRecDepth 100000 in
set_option maxHeartbeats 2000000 in
theorem dsub_any {w : World} {m n : Int} {s t : Nat} (hx : Gd m s) (hy : Gd n t) :
    Calls Tryz.prog 34 #[.agg #[.int .i64 m, .int .i64 (s : Nat)], .agg #[.int .i64 n, .int .i64 (t : Nat)]] w fun e w' => e = .returned (dv (subD m s n t)) ∧ Below w.heap.size w w' := by
  have HK := Lib.hid (fun W : World => taken_any (w := W) hx hy); have HX := Lib.hid (fun W : World => full_any (w := W) hx); have HY := Lib.hid (fun W : World => full_any (w := W) hy); have f1 := full_lt hx; have f2 := full_lt hy
  have HV := Lib.hid (show subD m s n t = tlb (adb (decide (m < 0)) (!decide (n < 0)) (m.natAbs * 10 ^ (9 - s)) (n.natAbs * 10 ^ (9 - t))) (adn (decide (m < 0)) (!decide (n < 0)) (m.natAbs * 10 ^ (9 - s)) (n.natAbs * 10 ^ (9 - t))) 9 by
    rw [tlb_eq, ad_sgn, sgn_not, val_sgn, val_sgn]; unfold subD; rw [Int.sub_eq_add_neg])
  generalize decide (m < 0) = c at *; generalize decide (n < 0) = d at *; generalize m.natAbs * 10 ^ (9 - s) = M at *; generalize n.natAbs * 10 ^ (9 - t) = N at *; have hle := adn_le c (!d) M N; have HA := Lib.hid (fun W : World => add_any (w := W) (a := c) (b := !d) (m := M) (n := N) (by omega)); have HT := Lib.hid (fun W : World => tell_any (w := W) (b := adb c (!d) M N) (n := adn c (!d) M N) (s := 9) (by omega) (by omega)); have HN := Lib.hid (fun W : World => negate_any (w := W) (b := d) (n := N)); clear f1 f2 hle hx hy; have H0 : Hid (SB w 3 ([((w.heap.size + 1 + 1), 30, #[.int .i64 0, .int .i64 0]), ((w.heap.size + 1), 30, #[.int .i64 n, .int .i64 (t : Nat)]), (w.heap.size, 30, #[.int .i64 m, .int .i64 (s : Nat)])] : List (Nat × TypeId × Array Value)) (((w.alloc (.cells #[.int .i64 m, .int .i64 (s : Nat)] 30)).alloc (.cells #[.int .i64 n, .int .i64 (t : Nat)] 30)).alloc (.cells #[.int .i64 0, .int .i64 0] 30))) := Lib.hid (((sb1 w 30 _).push (by simp) 30 _).push (by simp) 30 _); go_enter Tryz.func34, Tryz.ntmps34
  go_wp2_with fail
  refine (HK.out _).mono ?_; rintro e w1 ⟨rfl, hb⟩; have HSB := Lib.hid (H0.out.call hb); clear H0 hb; go_wp2
  refine wp_region_phases (S := (S1 w 3 ([((w.heap.size + 1 + 1), 30, #[.int .i64 0, .int .i64 0]), ((w.heap.size + 1), 30, #[.int .i64 n, .int .i64 (t : Nat)]), (w.heap.size, 30, #[.int .i64 m, .int .i64 (s : Nat)])] : List (Nat × TypeId × Array Value)) ([((w.heap.size + 1 + 1), 30, #[.int .i64 ((tlb (adb c (!d) M N) (adn c (!d) M N) 9)).m, .int .i64 (((tlb (adb c (!d) M N) (adn c (!d) M N) 9)).s : Nat)]), ((w.heap.size + 1), 30, #[.int .i64 n, .int .i64 (t : Nat)]), (w.heap.size, 30, #[.int .i64 m, .int .i64 (s : Nat)])] : List (Nat × TypeId × Array Value)))) (E := (fun _ _ => True)) [9] [(2, Is (.pointer (some ⟨w.heap.size, 0, none⟩))), (3, Is (.pointer (some ⟨(w.heap.size + 1), 0, none⟩))), (4, Is (.pointer (some ⟨(w.heap.size + 1 + 1), 0, none⟩)))] [(11, Is (.agg #[.int .i64 m, .int .i64 (s : Nat)])), (12, Is (wd c M)), (13, Is (.agg #[.int .i64 n, .int .i64 (t : Nat)])), (14, Is (wd d N)), (15, Is (wd (!d) N)), (16, Is (wd (adb c (!d) M N) (adn c (!d) M N))), (17, Is (.tuple #[.agg #[.int .i64 ((tlb (adb c (!d) M N) (adn c (!d) M N) 9)).m, .int .i64 (((tlb (adb c (!d) M N) (adn c (!d) M N) 9)).s : Nat)], .int .i64 (((tlb (adb c (!d) M N) (adn c (!d) M N) 9)).e : Nat)])), (18, Is (.agg #[.int .i64 ((tlb (adb c (!d) M N) (adn c (!d) M N) 9)).m, .int .i64 (((tlb (adb c (!d) M N) (adn c (!d) M N) 9)).s : Nat)])), (19, Is (.int .i64 (((tlb (adb c (!d) M N) (adn c (!d) M N) 9)).e : Nat))), (5, Is (.int .i64 (((tlb (adb c (!d) M N) (adn c (!d) M N) 9)).e : Nat)))]
    [.op [2] none, .op [11] none, .op [3] none, .op [13] none, .op [14] none, .op [12, 15] none, .op [16] none, .op [17] none, .op [17] none, .phase 0 [4, 18] [], .op [19] none] (by as_aux_lemma => kernel_rfl) ?_ ?_ ?_ ?_ ?_ ⟨stable_is _ _, stable_is _ _, stable_is _ _, stable_is _ _, stable_is _ _, stable_is _ _, stable_is _ _, stable_is _ _, stable_is _ _, stable_is _ _, stable_is _ _, stable_is _ _, stable_is _ _, trivial⟩ ?_ (HSB.out.drew) ?_ ?_
  · as_aux_lemma => kernel_rfl
  · as_aux_lemma => kernel_rfl
  · as_aux_lemma => kernel_rfl
  · as_aux_lemma => kernel_rfl
  · as_aux_lemma => kernel_rfl
  · exact ⟨rfl, rfl, rfl, trivial⟩
  · refine ⟨?_, ?_, ?_, ?_, ?_, ?_, ?_, ?_, ?_, ?_, ?_, trivial⟩
    · as_aux_lemma => intro vals a W hS hL; have e2 : a.tmps.getD 2 undef = .pointer (some ⟨w.heap.size, 0, none⟩) := hL.1; clear hL; have kb : Bk W w.heap.size 30 #[.int .i64 m, .int .i64 (s : Nat)] := hS.bk (.tail _ (.tail _ (.head _))) (.tail _ (.tail _ (.head _))); have f0 := kb.cell 0; have f1 := kb.cell 1; clear kb; go_simp; exact ⟨dstY (by rfl), hS, trivial⟩
    · as_aux_lemma => intro vals a W hS hL; have e11 : a.tmps.getD 11 undef = .agg #[.int .i64 m, .int .i64 (s : Nat)] := hL.1; clear hL; go_simp; refine (HX.out W).mono ?_; rintro e W' ⟨rfl, hb⟩; exact ⟨_, rfl, dstY (by rfl), hS.call hb, trivial⟩
    · as_aux_lemma => intro vals a W hS hL; have e3 : a.tmps.getD 3 undef = .pointer (some ⟨(w.heap.size + 1), 0, none⟩) := hL.1; clear hL; have kb : Bk W (w.heap.size + 1) 30 #[.int .i64 n, .int .i64 (t : Nat)] := hS.bk (.tail _ (.head _)) (.tail _ (.head _)); have f0 := kb.cell 0; have f1 := kb.cell 1; clear kb; go_simp; exact ⟨dstY (by rfl), hS, trivial⟩
    · as_aux_lemma => intro vals a W hS hL; have e13 : a.tmps.getD 13 undef = .agg #[.int .i64 n, .int .i64 (t : Nat)] := hL.1; clear hL; go_simp; refine (HY.out W).mono ?_; rintro e W' ⟨rfl, hb⟩; exact ⟨_, rfl, dstY (by rfl), hS.call hb, trivial⟩
    · as_aux_lemma => intro vals a W hS hL; have e14 : a.tmps.getD 14 undef = wd d N := hL.1; clear hL; go_simp; refine (HN.out W).mono ?_; rintro e W' ⟨rfl, hb⟩; exact ⟨_, rfl, dstY (by rfl), hS.call hb, trivial⟩
    · as_aux_lemma => intro vals a W hS hL; have e12 : a.tmps.getD 12 undef = wd c M := hL.1; have e15 : a.tmps.getD 15 undef = wd (!d) N := hL.2.1; clear hL; go_simp; refine (HA.out W).mono ?_; rintro e W' ⟨rfl, hb⟩; exact ⟨_, rfl, dstY (by rfl), hS.call hb, trivial⟩
    · as_aux_lemma => intro vals a W hS hL; have e16 : a.tmps.getD 16 undef = wd (adb c (!d) M N) (adn c (!d) M N) := hL.1; clear hL; go_simp; refine (HT.out W).mono ?_; rintro e W' ⟨rfl, hb⟩; exact ⟨_, rfl, dstY (by rfl), hS.call hb, trivial⟩
    · as_aux_lemma => intro vals a W hS hL; have e17 : a.tmps.getD 17 undef = .tuple #[.agg #[.int .i64 ((tlb (adb c (!d) M N) (adn c (!d) M N) 9)).m, .int .i64 (((tlb (adb c (!d) M N) (adn c (!d) M N) 9)).s : Nat)], .int .i64 (((tlb (adb c (!d) M N) (adn c (!d) M N) 9)).e : Nat)] := hL.1; clear hL; go_simp; exact ⟨dstY (by rfl), hS, trivial⟩
    · as_aux_lemma => intro vals a W hS hL; have e17 : a.tmps.getD 17 undef = .tuple #[.agg #[.int .i64 ((tlb (adb c (!d) M N) (adn c (!d) M N) 9)).m, .int .i64 (((tlb (adb c (!d) M N) (adn c (!d) M N) 9)).s : Nat)], .int .i64 (((tlb (adb c (!d) M N) (adn c (!d) M N) 9)).e : Nat)] := hL.1; clear hL; go_simp; exact ⟨dstY (by rfl), hS, trivial⟩
    · as_aux_lemma =>
        intro a W vals hv hS hL hp; have e4 : a.tmps.getD 4 undef = .pointer (some ⟨(w.heap.size + 1 + 1), 0, none⟩) := hL.1; have e18 : a.tmps.getD 18 undef = .agg #[.int .i64 ((tlb (adb c (!d) M N) (adn c (!d) M N) 9)).m, .int .i64 (((tlb (adb c (!d) M N) (adn c (!d) M N) 9)).s : Nat)] := hL.2.1; clear hL
        match vals, hv, hS with
        | [], _, hS =>
          have hB : SB w 3 ([((w.heap.size + 1 + 1), 30, #[.int .i64 0, .int .i64 0]), ((w.heap.size + 1), 30, #[.int .i64 n, .int .i64 (t : Nat)]), (w.heap.size, 30, #[.int .i64 m, .int .i64 (s : Nat)])] : List (Nat × TypeId × Array Value)) W := hS; have kz := hB.bk _ (List.mem_cons_self ..); have hlt : ∀ x ∈ ([((w.heap.size + 1), 30, #[.int .i64 n, .int .i64 (t : Nat)]), (w.heap.size, 30, #[.int .i64 m, .int .i64 (s : Nat)])] : List (Nat × TypeId × Array Value)), x.1 ≠ (w.heap.size + 1 + 1) := by simp <;> omega
          have z0 := kz.frozen 0; have q0 := kz.cell 0; have z1 := kz.frozen 1; have q1 := kz.cell 1; have hF := hB.set2 (by omega) hlt (.int .i64 ((tlb (adb c (!d) M N) (adn c (!d) M N) 9)).m : Value) (.int .i64 (((tlb (adb c (!d) M N) (adn c (!d) M N) 9)).s : Nat) : Value); rw [Array.getD_eq_getD_getElem?] at e18; clear hS kz hB; go_simp; exact ⟨hF, trivial, trivial⟩
    · as_aux_lemma => intro vals a W hS hL; have e19 : a.tmps.getD 19 undef = .int .i64 (((tlb (adb c (!d) M N) (adn c (!d) M N) 9)).e : Nat) := hL.1; clear hL; go_simp; exact ⟨dstY (by rfl), hS, trivial⟩
  · intro a W' vals hd hsz hT hF hv _ hS
    obtain ⟨u, rfl⟩ : ∃ u, vals = [u] := by
      match vals, hv with
      | [u], _ => exact ⟨u, rfl⟩
    have hB : SB w 3 ([((w.heap.size + 1 + 1), 30, #[.int .i64 ((tlb (adb c (!d) M N) (adn c (!d) M N) 9)).m, .int .i64 (((tlb (adb c (!d) M N) (adn c (!d) M N) 9)).s : Nat)]), ((w.heap.size + 1), 30, #[.int .i64 n, .int .i64 (t : Nat)]), (w.heap.size, 30, #[.int .i64 m, .int .i64 (s : Nat)])] : List (Nat × TypeId × Array Value)) W' := hS; have kz := hB.bk _ (List.mem_cons_self ..); have r0 := kz.cell 0; have r1 := kz.cell 1; clear kz hS; have e4 : a.tmps.getD 4 undef = .pointer (some ⟨(w.heap.size + 1 + 1), 0, none⟩) := hT 4 (by simp); have e5 : a.tmps.getD 5 undef = .int .i64 (((tlb (adb c (!d) M N) (adn c (!d) M N) 9)).e : Nat) := hT 5 (by simp); clear hT hF; go_wp2; refine bodyPost_ret (v := dv (tlb (adb c (!d) M N) (adn c (!d) M N) 9)) ?_ hd ⟨by rw [HV.out], hB.bel⟩; rw [dv_parts]; rw [Array.getD_eq_getD_getElem?] at e4 e5; simp [results, Tryz.results34, go_sem, e4, e5, r0, r1]
set_option maxRecDepth 100000 in
set_option maxHeartbeats 2000000 in
theorem compare_any {w : World} {m n : Int} {s t : Nat} (hx : Gd m s) (hy : Gd n t) :
    Calls Tryz.prog 33 #[.agg #[.int .i64 m, .int .i64 (s : Nat)], .agg #[.int .i64 n, .int .i64 (t : Nat)]] w fun e w' => e = .returned (.int .i64 (cmp (val m s) (val n t))) ∧ Below w.heap.size w w' := by
  have HK := Lib.hid (fun W : World => taken_any (w := W) hx hy); have HX := Lib.hid (fun W : World => full_any (w := W) hx); have HY := Lib.hid (fun W : World => full_any (w := W) hy); have f1 := full_lt hx; have f2 := full_lt hy
  have HV := Lib.hid (show cmp (val m s) (val n t) = cmp (sgn (adb (decide (m < 0)) (!decide (n < 0)) (m.natAbs * 10 ^ (9 - s)) (n.natAbs * 10 ^ (9 - t))) (adn (decide (m < 0)) (!decide (n < 0)) (m.natAbs * 10 ^ (9 - s)) (n.natAbs * 10 ^ (9 - t)))) 0 by
    rw [ad_sgn, sgn_not, val_sgn, val_sgn, ← Int.sub_eq_add_neg, cmp_sub])
  generalize decide (m < 0) = c at *; generalize decide (n < 0) = d at *; generalize m.natAbs * 10 ^ (9 - s) = M at *; generalize n.natAbs * 10 ^ (9 - t) = N at *; have HN := Lib.hid (fun W : World => negate_any (w := W) (b := d) (n := N)); have HA := Lib.hid (fun W : World => add_any (w := W) (a := c) (b := !d) (m := M) (n := N) (by omega)); have HT := Lib.hid (fun W : World => sign_any (w := W) (b := adb c (!d) M N) (n := adn c (!d) M N)); clear f1 f2 hx hy; have H0 : Hid (SB w 2 ([((w.heap.size + 1), 30, #[.int .i64 n, .int .i64 (t : Nat)]), (w.heap.size, 30, #[.int .i64 m, .int .i64 (s : Nat)])] : List (Nat × TypeId × Array Value)) ((w.alloc (.cells #[.int .i64 m, .int .i64 (s : Nat)] 30)).alloc (.cells #[.int .i64 n, .int .i64 (t : Nat)] 30))) := Lib.hid ((sb1 w 30 _).push (by simp) 30 _); go_enter Tryz.func33, Tryz.ntmps33
  go_wp2_with fail
  refine (HK.out _).mono ?_; rintro e w1 ⟨rfl, hb⟩; have HSB := Lib.hid (H0.out.call hb); clear H0 hb; go_wp2
  refine wp_region_phases (S := (S1 w 2 ([((w.heap.size + 1), 30, #[.int .i64 n, .int .i64 (t : Nat)]), (w.heap.size, 30, #[.int .i64 m, .int .i64 (s : Nat)])] : List (Nat × TypeId × Array Value)) ([((w.heap.size + 1), 30, #[.int .i64 n, .int .i64 (t : Nat)]), (w.heap.size, 30, #[.int .i64 m, .int .i64 (s : Nat)])] : List (Nat × TypeId × Array Value)))) (E := (fun _ _ => True)) [] [(2, Is (.pointer (some ⟨w.heap.size, 0, none⟩))), (3, Is (.pointer (some ⟨(w.heap.size + 1), 0, none⟩)))] [(9, Is (.agg #[.int .i64 m, .int .i64 (s : Nat)])), (10, Is (wd c M)), (11, Is (.agg #[.int .i64 n, .int .i64 (t : Nat)])), (12, Is (wd d N)), (13, Is (wd (!d) N)), (14, Is (wd (adb c (!d) M N) (adn c (!d) M N))), (15, Is (.int .i64 (cmp (sgn (adb c (!d) M N) (adn c (!d) M N)) 0))), (4, Is (.int .i64 (cmp (sgn (adb c (!d) M N) (adn c (!d) M N)) 0)))]
    [.op [2] none, .op [9] none, .op [3] none, .op [11] none, .op [12] none, .op [10, 13] none, .op [14] none, .op [15] none] (by as_aux_lemma => kernel_rfl) ?_ ?_ ?_ ?_ ?_ ⟨stable_is _ _, stable_is _ _, stable_is _ _, stable_is _ _, stable_is _ _, stable_is _ _, stable_is _ _, stable_is _ _, stable_is _ _, stable_is _ _, trivial⟩ ?_ (HSB.out.drew) ?_ ?_
  · as_aux_lemma => kernel_rfl
  · as_aux_lemma => kernel_rfl
  · as_aux_lemma => kernel_rfl
  · as_aux_lemma => kernel_rfl
  · as_aux_lemma => kernel_rfl
  · exact ⟨rfl, rfl, trivial⟩
  · refine ⟨?_, ?_, ?_, ?_, ?_, ?_, ?_, ?_, trivial⟩
    · as_aux_lemma => intro vals a W hS hL; have e2 : a.tmps.getD 2 undef = .pointer (some ⟨w.heap.size, 0, none⟩) := hL.1; clear hL; have kb : Bk W w.heap.size 30 #[.int .i64 m, .int .i64 (s : Nat)] := hS.bk (.tail _ (.head _)) (.tail _ (.head _)); have f0 := kb.cell 0; have f1 := kb.cell 1; clear kb; go_simp; exact ⟨dstY (by rfl), hS, trivial⟩
    · as_aux_lemma => intro vals a W hS hL; have e9 : a.tmps.getD 9 undef = .agg #[.int .i64 m, .int .i64 (s : Nat)] := hL.1; clear hL; go_simp; refine (HX.out W).mono ?_; rintro e W' ⟨rfl, hb⟩; exact ⟨_, rfl, dstY (by rfl), hS.call hb, trivial⟩
    · as_aux_lemma => intro vals a W hS hL; have e3 : a.tmps.getD 3 undef = .pointer (some ⟨(w.heap.size + 1), 0, none⟩) := hL.1; clear hL; have kb : Bk W (w.heap.size + 1) 30 #[.int .i64 n, .int .i64 (t : Nat)] := hS.bk (.head _) (.head _); have f0 := kb.cell 0; have f1 := kb.cell 1; clear kb; go_simp; exact ⟨dstY (by rfl), hS, trivial⟩
    · as_aux_lemma => intro vals a W hS hL; have e11 : a.tmps.getD 11 undef = .agg #[.int .i64 n, .int .i64 (t : Nat)] := hL.1; clear hL; go_simp; refine (HY.out W).mono ?_; rintro e W' ⟨rfl, hb⟩; exact ⟨_, rfl, dstY (by rfl), hS.call hb, trivial⟩
    · as_aux_lemma => intro vals a W hS hL; have e12 : a.tmps.getD 12 undef = wd d N := hL.1; clear hL; go_simp; refine (HN.out W).mono ?_; rintro e W' ⟨rfl, hb⟩; exact ⟨_, rfl, dstY (by rfl), hS.call hb, trivial⟩
    · as_aux_lemma => intro vals a W hS hL; have e10 : a.tmps.getD 10 undef = wd c M := hL.1; have e13 : a.tmps.getD 13 undef = wd (!d) N := hL.2.1; clear hL; go_simp; refine (HA.out W).mono ?_; rintro e W' ⟨rfl, hb⟩; exact ⟨_, rfl, dstY (by rfl), hS.call hb, trivial⟩
    · as_aux_lemma => intro vals a W hS hL; have e14 : a.tmps.getD 14 undef = wd (adb c (!d) M N) (adn c (!d) M N) := hL.1; clear hL; go_simp; refine (HT.out W).mono ?_; rintro e W' ⟨rfl, hb⟩; exact ⟨_, rfl, dstY (by rfl), hS.call hb, trivial⟩
    · as_aux_lemma => intro vals a W hS hL; have e15 : a.tmps.getD 15 undef = .int .i64 (cmp (sgn (adb c (!d) M N) (adn c (!d) M N)) 0) := hL.1; clear hL; go_simp; exact ⟨dstY (by rfl), hS, trivial⟩
  · intro a W' vals hd hsz hT hF hv _ hS; obtain rfl : vals = [] := List.eq_nil_of_length_eq_zero hv; have hB : SB w 2 ([((w.heap.size + 1), 30, #[.int .i64 n, .int .i64 (t : Nat)]), (w.heap.size, 30, #[.int .i64 m, .int .i64 (s : Nat)])] : List (Nat × TypeId × Array Value)) W' := hS; clear hS; have e4 : a.tmps.getD 4 undef = .int .i64 (cmp (sgn (adb c (!d) M N) (adn c (!d) M N)) 0) := hT 4 (by simp); clear hT hF; go_wp2; refine bodyPost_ret (v := .int .i64 (cmp (sgn (adb c (!d) M N) (adn c (!d) M N)) 0)) ?_ hd ⟨by rw [HV.out], hB.bel⟩; rw [Array.getD_eq_getD_getElem?] at e4; simp [results, Tryz.results33, go_sem, e4]
set_option maxRecDepth 100000 in
set_option maxHeartbeats 2000000 in
theorem norm_any {w : World} {m : Int} {s : Nat} (h0 : -9223372036854775808 ≤ m) (h1 : m ≤ 9223372036854775807) (hs : s ≤ 9) :
    Calls Tryz.prog 31 #[.agg #[.int .i64 m, .int .i64 (s : Nat)]] w fun e w' => e = .returned (.agg #[.int .i64 (tl m s).m, .int .i64 ((tl m s).s : Nat)]) ∧ Below w.heap.size w w' := by
  have HW := Lib.hid (fun W : World => widen_any (w := W) h0 h1); have HT := Lib.hid (fun W : World => tell_any (w := W) (b := decide (m < 0)) (n := m.natAbs) (s := s) (by omega) (by omega)); have HV := Lib.hid (show tl m s = tlb (decide (m < 0)) m.natAbs s from rfl); rw [HV.out]; clear h0 h1 hs HV; generalize decide (m < 0) = c at *; generalize m.natAbs = M at *; have HSB : Hid (SB w 2 ([((w.heap.size + 1), 30, #[.int .i64 0, .int .i64 0]), (w.heap.size, 30, #[.int .i64 m, .int .i64 (s : Nat)])] : List (Nat × TypeId × Array Value)) ((w.alloc (.cells #[.int .i64 m, .int .i64 (s : Nat)] 30)).alloc (.cells #[.int .i64 0, .int .i64 0] 30))) := Lib.hid ((sb1 w 30 _).push (by simp) 30 _); go_enter Tryz.func31, Tryz.ntmps31; go_wp2
  refine wp_region_phases (S := (S2 w 2 ([((w.heap.size + 1), 30, #[.int .i64 0, .int .i64 0]), (w.heap.size, 30, #[.int .i64 m, .int .i64 (s : Nat)])] : List (Nat × TypeId × Array Value)) 30 #[.int .i64 0, .int .i64 0] #[.int .i64 ((tlb c M s)).m, .int .i64 (((tlb c M s)).s : Nat)])) (E := (fun _ _ => True)) [9, 10] [(1, Is (.pointer (some ⟨w.heap.size, 0, none⟩))), (2, Is (.pointer (some ⟨(w.heap.size + 1), 0, none⟩)))] [(6, Is (.pointer (some ⟨w.heap.size, 0, none⟩))), (7, Is (.int .i64 m)), (8, Is (wd c M)), (9, Is (.pointer (some ⟨w.heap.size, 1, none⟩))), (10, Is (.int .i64 (s : Nat))), (11, Is (.tuple #[.agg #[.int .i64 ((tlb c M s)).m, .int .i64 (((tlb c M s)).s : Nat)], .int .i64 (((tlb c M s)).e : Nat)])), (5, Is (.tuple #[.agg #[.int .i64 ((tlb c M s)).m, .int .i64 (((tlb c M s)).s : Nat)], .int .i64 (((tlb c M s)).e : Nat)])), (12, Is (.agg #[.int .i64 ((tlb c M s)).m, .int .i64 (((tlb c M s)).s : Nat)])), (13, Is (.int .i64 (((tlb c M s)).e : Nat))), (4, Is (.int .i64 (((tlb c M s)).e : Nat)))]
    [.op [1] none, .op [6] none, .op [7] none, .op [1] none, .op [9] none, .op [8, 10] none, .op [11] none, .op [5] none, .op [5] none, .phase 0 [] [], .phase 1 [12] [(0, 3)], .op [13] none] (by as_aux_lemma => kernel_rfl) ?_ ?_ ?_ ?_ ?_ ⟨stable_is _ _, stable_is _ _, stable_is _ _, stable_is _ _, stable_is _ _, stable_is _ _, stable_is _ _, stable_is _ _, stable_is _ _, stable_is _ _, stable_is _ _, stable_is _ _, trivial⟩ ?_ (HSB.out.drew) ?_ ?_
  · as_aux_lemma => kernel_rfl
  · as_aux_lemma => kernel_rfl
  · as_aux_lemma => kernel_rfl
  · as_aux_lemma => kernel_rfl
  · as_aux_lemma => kernel_rfl
  · exact ⟨rfl, rfl, trivial⟩
  · refine ⟨?_, ?_, ?_, ?_, ?_, ?_, ?_, ?_, ?_, ?_, ?_, ?_, trivial⟩
    · as_aux_lemma => intro vals a W hS hL; have e1 : a.tmps.getD 1 undef = .pointer (some ⟨w.heap.size, 0, none⟩) := hL.1; clear hL; go_simp; exact ⟨dstY (by rfl), hS, trivial⟩
    · as_aux_lemma => intro vals a W hS hL; have e6 : a.tmps.getD 6 undef = .pointer (some ⟨w.heap.size, 0, none⟩) := hL.1; clear hL; have kb : Bk W w.heap.size 30 #[.int .i64 m, .int .i64 (s : Nat)] := hS.bk (.tail _ (.head _)); have f0 := kb.cell 0; clear kb; go_simp; exact ⟨dstY (by rfl), hS, trivial⟩
    · as_aux_lemma => intro vals a W hS hL; have e7 : a.tmps.getD 7 undef = .int .i64 m := hL.1; clear hL; go_simp; refine (HW.out W).mono ?_; rintro e W' ⟨rfl, hb⟩; exact ⟨_, rfl, dstY (by rfl), hS.call hb, trivial⟩
    · as_aux_lemma => intro vals a W hS hL; have e1 : a.tmps.getD 1 undef = .pointer (some ⟨w.heap.size, 0, none⟩) := hL.1; clear hL; go_simp; exact ⟨dstY (by rfl), hS, trivial⟩
    · as_aux_lemma => intro vals a W hS hL; have e9 : a.tmps.getD 9 undef = .pointer (some ⟨w.heap.size, 1, none⟩) := hL.1; clear hL; have kb : Bk W w.heap.size 30 #[.int .i64 m, .int .i64 (s : Nat)] := hS.bk (.tail _ (.head _)); have f1 := kb.cell 1; clear kb; go_simp; exact ⟨dstY (by rfl), hS, trivial⟩
    · as_aux_lemma => intro vals a W hS hL; have e8 : a.tmps.getD 8 undef = wd c M := hL.1; have e10 : a.tmps.getD 10 undef = .int .i64 (s : Nat) := hL.2.1; clear hL; go_simp; refine (HT.out W).mono ?_; rintro e W' ⟨rfl, hb⟩; exact ⟨_, rfl, dstY (by rfl), hS.call hb, trivial⟩
    · as_aux_lemma => intro vals a W hS hL; have e11 : a.tmps.getD 11 undef = .tuple #[.agg #[.int .i64 ((tlb c M s)).m, .int .i64 (((tlb c M s)).s : Nat)], .int .i64 (((tlb c M s)).e : Nat)] := hL.1; clear hL; go_simp; exact ⟨dstY (by rfl), hS, trivial⟩
    · as_aux_lemma => intro vals a W hS hL; have e5 : a.tmps.getD 5 undef = .tuple #[.agg #[.int .i64 ((tlb c M s)).m, .int .i64 (((tlb c M s)).s : Nat)], .int .i64 (((tlb c M s)).e : Nat)] := hL.1; clear hL; go_simp; exact ⟨dstY (by rfl), hS, trivial⟩
    · as_aux_lemma => intro vals a W hS hL; have e5 : a.tmps.getD 5 undef = .tuple #[.agg #[.int .i64 ((tlb c M s)).m, .int .i64 (((tlb c M s)).s : Nat)], .int .i64 (((tlb c M s)).e : Nat)] := hL.1; clear hL; go_simp; exact ⟨dstY (by rfl), hS, trivial⟩
    · as_aux_lemma =>
        intro a W vals hv hS hL hp; clear hL
        match vals, hv, hS with
        | [], _, hS =>
          have hB : SB w 2 ([((w.heap.size + 1), 30, #[.int .i64 0, .int .i64 0]), (w.heap.size, 30, #[.int .i64 m, .int .i64 (s : Nat)])] : List (Nat × TypeId × Array Value)) W := hS; have hF := hB.alloc 30 #[.int .i64 0, .int .i64 0]; have hz := hB.size; go_simp; exact ⟨⟨_, rfl, hz, hF⟩, trivial, trivial⟩
    · as_aux_lemma =>
        intro a W vals hv hS hL hp; have e12 : a.tmps.getD 12 undef = .agg #[.int .i64 ((tlb c M s)).m, .int .i64 (((tlb c M s)).s : Nat)] := hL.1; clear hL
        match vals, hv, hS with
        | [v], _, hS =>
          obtain ⟨g, rfl, hg, hB⟩ := hS; have e3 := hp.1 (by simp); simp only [List.getElem?_cons_zero, Option.some.injEq] at e3; have kz := hB.bk _ (List.mem_cons_self ..); have hlt : ∀ x ∈ ([((w.heap.size + 1), 30, #[.int .i64 0, .int .i64 0]), (w.heap.size, 30, #[.int .i64 m, .int .i64 (s : Nat)])] : List (Nat × TypeId × Array Value)), x.1 ≠ g := by simp <;> omega
          have z0 := kz.frozen 0; have q0 := kz.cell 0; have z1 := kz.frozen 1; have q1 := kz.cell 1; have hF := hB.set2 (by omega) hlt (.int .i64 ((tlb c M s)).m : Value) (.int .i64 (((tlb c M s)).s : Nat) : Value); rw [Array.getD_eq_getD_getElem?] at e12; rw [Array.getD_eq_getD_getElem?] at e3; have e3' := e3.symm; clear e3; clear hS kz hB; go_simp; exact ⟨⟨g, rfl, hg, hF⟩, trivial, trivial⟩
    · as_aux_lemma => intro vals a W hS hL; have e13 : a.tmps.getD 13 undef = .int .i64 (((tlb c M s)).e : Nat) := hL.1; clear hL; go_simp; exact ⟨dstY (by rfl), hS, trivial⟩
  · intro a W' vals hd hsz hT hF hv hP hS
    obtain ⟨v0, v1, rfl⟩ : ∃ v0 v1, vals = [v0, v1] := by
      match vals, hv with
      | [x, y], _ => exact ⟨x, y, rfl⟩
    obtain ⟨g, hg0, hg, hB⟩ : ∃ g : Nat, v0 = .pointer (some ⟨g, 0, none⟩) ∧ w.heap.size + 2 ≤ g ∧ SB w 2 ([(g, 30, #[.int .i64 ((tlb c M s)).m, .int .i64 (((tlb c M s)).s : Nat)]), ((w.heap.size + 1), 30, #[.int .i64 0, .int .i64 0]), (w.heap.size, 30, #[.int .i64 m, .int .i64 (s : Nat)])] : List (Nat × TypeId × Array Value)) W' := hS; subst hg0
    have e3 : a.tmps.getD 3 undef = .pointer (some ⟨g, 0, none⟩) := by
      have := hP 0 9 _ 3 rfl (by simp) rfl rfl
      simpa using this.symm
    have e2 : a.tmps.getD 2 undef = .pointer (some ⟨(w.heap.size + 1), 0, none⟩) := hT 2 (by simp); clear hT hF hP; rw [act_lit 15 a hd hsz]; simp only [List.range, List.range.loop, List.map, e2, e3]; clear e2 e3; have k5 := hB.bk _ (List.mem_cons_self ..); have c50 := k5.cell 0; have c51 := k5.cell 1; clear k5; have k6 := hB.bk _ (.tail _ (.head _)); have c60 := k6.cell 0; have z60 := k6.frozen 0; have c61 := k6.cell 1; have z61 := k6.frozen 1; clear k6; have hbel := hB.bel; clear hB; go_wp2; refine bodyPost_ret (v := .agg #[.int .i64 (tlb c M s).m, .int .i64 ((tlb c M s).s : Nat)]) ?_ rfl ⟨rfl, (hbel.setCell (by simp) _).setCell (by simp) _⟩; simp [results, Tryz.results31, go_sem, c60, c61]
end Go.Proofs.YtngkolcpbgibcaaGreatDoor
namespace Go.Proofs.YtngkolcpbgibcaaGreatDoor
open Go.RowKit
theorem Gd.abs {m : Int} {s : Nat} (h : Gd m s) : m.natAbs ≤ 9223372036854775808 := by
  have h1 := h.lo; have h2 := h.hi; omega
theorem widen_small {w : World} {m : Int} {s : Nat} (h : Gd m s) :
    Calls Tryz.prog 88 #[.int .i64 m] w fun e w' => e = .returned (.agg #[.bool (decide (m < 0)), .int .u64 0, .int .u64 (m.natAbs : Nat)]) ∧ Below w.heap.size w w' := by
  have := widen_any (w := w) h.lo h.hi; rw [wd_small (by have := h.abs; omega)] at this; exact this
theorem rnd_zero (k : Nat) : rnd 0 k = 0 := by cases k <;> simp [rnd]
theorem sgn_zero (b : Bool) : sgn b 0 = 0 := by cases b <;> rfl
theorem sgn_rnd (m n : Int) (k : Nat) : sgn (decide (m < 0) != decide (n < 0)) (rnd (m.natAbs * n.natAbs) k) = rndI (m * n) k := by
  unfold rndI; rw [Int.natAbs_mul]
  by_cases h0 : m.natAbs * n.natAbs = 0
  · rw [h0, rnd_zero, sgn_zero, sgn_zero]
  · have hm : m ≠ 0 := by rintro rfl; simp at h0
    have hn : n ≠ 0 := by rintro rfl; simp at h0
    congr 1
    rcases Int.lt_or_lt_of_ne hm with h1 | h1 <;> rcases Int.lt_or_lt_of_ne hn with h2 | h2
    · have h3 := Int.mul_pos_of_neg_of_neg h1 h2; rw [decide_eq_true h1, decide_eq_true h2, decide_eq_false (by omega)]; rfl
    · have h3 := Int.mul_neg_of_neg_of_pos h1 h2; rw [decide_eq_true h1, decide_eq_false (by omega), decide_eq_true h3]; rfl
    · have h3 := Int.mul_neg_of_pos_of_neg h1 h2; rw [decide_eq_false (by omega), decide_eq_true h2, decide_eq_true h3]; rfl
    · have h3 := Int.mul_pos h1 h2; rw [decide_eq_false (by omega), decide_eq_false (by omega), decide_eq_false (by omega)]; rfl
set_option maxRecDepth 100000 in
set_option maxHeartbeats 2000000 in
theorem mul_any {w : World} {m n : Int} {s t : Nat} (hx : Gd m s) (hy : Gd n t) :
    Calls Tryz.prog 36 #[.agg #[.int .i64 m, .int .i64 (s : Nat)], .agg #[.int .i64 n, .int .i64 (t : Nat)]] w fun e w' => e = .returned (dv (mulD m s n t)) ∧ Below w.heap.size w w' := by
  have HK := Lib.hid (fun W : World => taken_any (w := W) hx hy); have HX := Lib.hid (fun W : World => widen_any (w := W) hx.lo hx.hi); have HY := Lib.hid (fun W : World => widen_small (w := W) hy); have hs := hx.s9; have ht := hy.s9; have hxa := hx.abs; have hya := hy.abs; have hMN : m.natAbs * n.natAbs ≤ 9223372036854775808 * 9223372036854775808 := Nat.mul_le_mul hxa hya
  have HV := Lib.hid (show ∀ p k, p = min (s + t) 9 → k = s + t - 9 → mulD m s n t = tlb (decide (m < 0) != decide (n < 0)) (rnd (m.natAbs * n.natAbs) k) p by
    intro p k hp hk; subst hp hk
    rw [tlb_eq, sgn_rnd]; rfl)
  have hc : decide (m < 0) = decide (m < 0) := rfl; obtain ⟨c, hc⟩ : ∃ c, decide (m < 0) = c := ⟨_, rfl⟩
  obtain ⟨d, hd⟩ : ∃ d, decide (n < 0) = d := ⟨_, rfl⟩
  rw [hc] at HX HV; rw [hd] at HY HV; have HCD := Lib.hid (And.intro hc hd); clear hc hd hx hy hxa; generalize m.natAbs = M at *; generalize n.natAbs = N at *; have hNb : N ≤ 9223372036854775808 := by omega
  have HT := Lib.hid (fun W : World => times_any (w := W) (b := c) (n := M) (k := N) (by omega) (by omega)); have hP : M * N + 1 < 340282366920938463463374607431768211456 := by omega
  generalize M * N = P at *; have H0 : Hid (SB w 3 ([((w.heap.size + 1 + 1), 30, #[.int .i64 0, .int .i64 0]), ((w.heap.size + 1), 30, #[.int .i64 n, .int .i64 (t : Nat)]), (w.heap.size, 30, #[.int .i64 m, .int .i64 (s : Nat)])] : List (Nat × TypeId × Array Value)) (((w.alloc (.cells #[.int .i64 m, .int .i64 (s : Nat)] 30)).alloc (.cells #[.int .i64 n, .int .i64 (t : Nat)] 30)).alloc (.cells #[.int .i64 0, .int .i64 0] 30))) := Lib.hid (((sb1 w 30 _).push (by simp) 30 _).push (by simp) 30 _)
  by_cases hst : 9 < s + t
  · have HP := Lib.hid hP; have HST := Lib.hid hst; have hs' : (s : Int) ≤ 9 := by omega
    have ht' : (t : Int) ≤ 9 := by omega
    have hst' : 9 < (s : Int) + (t : Int) := by omega
    have HD : Hid (∀ W : World, Calls Tryz.prog 98 #[.agg #[.bool (c != d), .int .u64 (hi P : Nat), .int .u64 (lo P : Nat)], .int .i64 ((s : Int) + (t : Int) - 9)] W fun e w' => e = .returned (.agg #[.bool (c != d), .int .u64 (hi (rnd P (s + t - 9)) : Nat), .int .u64 (lo (rnd P (s + t - 9)) : Nat)]) ∧ Below W.heap.size W w') := Lib.hid (fun W => by
      have := drop_any (w := W) (b := c != d) (n := P) (k := s + t - 9) hP (by omega); rw [show ((s + t - 9 : Nat) : Int) = (s : Int) + (t : Int) - 9 by omega] at this
      exact this)
    have HV2 := Lib.hid (HV.out 9 (s + t - 9) (by omega) rfl); have hR := rnd_le P (s + t - 9); generalize rnd P (s + t - 9) = Q at *; have HTL : Hid (∀ W : World, Calls Tryz.prog 87 #[.agg #[.bool (c != d), .int .u64 (hi Q : Nat), .int .u64 (lo Q : Nat)], .int .i64 9] W fun e w' => e = .returned (dv (tlb (c != d) Q 9)) ∧ Below W.heap.size W w') := Lib.hid (fun W => tell_any (w := W) (b := c != d) (n := Q) (s := 9) (by omega) (by omega)); clear hR; clear hP hMN hNb hst hs ht HV hya; go_enter Tryz.func36, Tryz.ntmps36
    go_wp2_with fail
    refine (HK.out _).mono ?_; rintro e w1 ⟨rfl, hb⟩; have HSB := Lib.hid (H0.out.call hb); clear H0 hb; go_wp2
    refine wp_region_phases (S := (S2 w 3 ([((w.heap.size + 1 + 1), 30, #[.int .i64 0, .int .i64 0]), ((w.heap.size + 1), 30, #[.int .i64 n, .int .i64 (t : Nat)]), (w.heap.size, 30, #[.int .i64 m, .int .i64 (s : Nat)])] : List (Nat × TypeId × Array Value)) 119 #[.bool false, .int .u64 0, .int .u64 0] #[.bool c, .int .u64 (hi (P) : Nat), .int .u64 (lo (P) : Nat)])) (E := (fun _ _ => True)) [8, 9] [(2, Is (.pointer (some ⟨w.heap.size, 0, none⟩))), (3, Is (.pointer (some ⟨(w.heap.size + 1), 0, none⟩))), (4, Is (.pointer (some ⟨(w.heap.size + 1 + 1), 0, none⟩)))] [(13, Is (.pointer (some ⟨w.heap.size, 0, none⟩))), (14, Is (.int .i64 m)), (15, Is (wd c M)), (16, Is (.pointer (some ⟨(w.heap.size + 1), 0, none⟩))), (17, Is (.int .i64 n)), (18, Is (.agg #[.bool d, .int .u64 0, .int .u64 (N : Nat)])), (19, Is (.int .u64 (N : Nat))), (20, Is (.agg #[.bool c, .int .u64 (hi (P) : Nat), .int .u64 (lo (P) : Nat)]))]
      [.op [2] none, .op [13] none, .op [14] none, .op [3] none, .op [16] none, .op [17] none, .op [18] none, .op [15, 19] none, .phase 0 [] [], .phase 1 [20] [(0, 6)]] (by as_aux_lemma => kernel_rfl) ?_ ?_ ?_ ?_ ?_ ⟨stable_is _ _, stable_is _ _, stable_is _ _, stable_is _ _, stable_is _ _, stable_is _ _, stable_is _ _, stable_is _ _, stable_is _ _, stable_is _ _, stable_is _ _, trivial⟩ ?_ (HSB.out.drew) ?_ ?_
    · as_aux_lemma => kernel_rfl
    · as_aux_lemma => kernel_rfl
    · as_aux_lemma => kernel_rfl
    · as_aux_lemma => kernel_rfl
    · as_aux_lemma => kernel_rfl
    · exact ⟨rfl, rfl, rfl, trivial⟩
    · refine ⟨?_, ?_, ?_, ?_, ?_, ?_, ?_, ?_, ?_, ?_, trivial⟩
      · as_aux_lemma => intro vals a W hS hL; have e2 : a.tmps.getD 2 undef = .pointer (some ⟨w.heap.size, 0, none⟩) := hL.1; clear hL; go_simp; exact ⟨dstY (by rfl), hS, trivial⟩
      · as_aux_lemma => intro vals a W hS hL; have e13 : a.tmps.getD 13 undef = .pointer (some ⟨w.heap.size, 0, none⟩) := hL.1; clear hL; have kb : Bk W w.heap.size 30 #[.int .i64 m, .int .i64 (s : Nat)] := hS.bk (.tail _ (.tail _ (.head _))); have f0 := kb.cell 0; clear kb; go_simp; exact ⟨dstY (by rfl), hS, trivial⟩
      · as_aux_lemma => intro vals a W hS hL; have e14 : a.tmps.getD 14 undef = .int .i64 m := hL.1; clear hL; go_simp; refine (HX.out W).mono ?_; rintro e W' ⟨rfl, hb⟩; exact ⟨_, rfl, dstY (by rfl), hS.call hb, trivial⟩
      · as_aux_lemma => intro vals a W hS hL; have e3 : a.tmps.getD 3 undef = .pointer (some ⟨(w.heap.size + 1), 0, none⟩) := hL.1; clear hL; go_simp; exact ⟨dstY (by rfl), hS, trivial⟩
      · as_aux_lemma => intro vals a W hS hL; have e16 : a.tmps.getD 16 undef = .pointer (some ⟨(w.heap.size + 1), 0, none⟩) := hL.1; clear hL; have kb : Bk W (w.heap.size + 1) 30 #[.int .i64 n, .int .i64 (t : Nat)] := hS.bk (.tail _ (.head _)); have f0 := kb.cell 0; clear kb; go_simp; exact ⟨dstY (by rfl), hS, trivial⟩
      · as_aux_lemma => intro vals a W hS hL; have e17 : a.tmps.getD 17 undef = .int .i64 n := hL.1; clear hL; go_simp; refine (HY.out W).mono ?_; rintro e W' ⟨rfl, hb⟩; exact ⟨_, rfl, dstY (by rfl), hS.call hb, trivial⟩
      · as_aux_lemma => intro vals a W hS hL; have e18 : a.tmps.getD 18 undef = .agg #[.bool d, .int .u64 0, .int .u64 (N : Nat)] := hL.1; clear hL; go_simp; exact ⟨dstY (by rfl), hS, trivial⟩
      · as_aux_lemma => intro vals a W hS hL; have e15 : a.tmps.getD 15 undef = wd c M := hL.1; have e19 : a.tmps.getD 19 undef = .int .u64 (N : Nat) := hL.2.1; clear hL; go_simp; refine (HT.out W).mono ?_; rintro e W' ⟨rfl, hb⟩; exact ⟨_, rfl, dstY (by rfl), hS.call hb, trivial⟩
      · as_aux_lemma =>
          intro a W vals hv hS hL hp; clear hL
          match vals, hv, hS with
          | [], _, hS =>
            have hB : SB w 3 ([((w.heap.size + 1 + 1), 30, #[.int .i64 0, .int .i64 0]), ((w.heap.size + 1), 30, #[.int .i64 n, .int .i64 (t : Nat)]), (w.heap.size, 30, #[.int .i64 m, .int .i64 (s : Nat)])] : List (Nat × TypeId × Array Value)) W := hS; have hF := hB.alloc 119 #[.bool false, .int .u64 0, .int .u64 0]; have hz := hB.size; go_simp; exact ⟨⟨_, rfl, hz, hF⟩, trivial, trivial⟩
      · as_aux_lemma =>
          intro a W vals hv hS hL hp; have e20 : a.tmps.getD 20 undef = .agg #[.bool c, .int .u64 (hi (P) : Nat), .int .u64 (lo (P) : Nat)] := hL.1; clear hL
          match vals, hv, hS with
          | [v], _, hS =>
            obtain ⟨g, rfl, hg, hB⟩ := hS; have e6 := hp.1 (by simp); simp only [List.getElem?_cons_zero, Option.some.injEq] at e6; have kz := hB.bk _ (List.mem_cons_self ..); have hlt : ∀ x ∈ ([((w.heap.size + 1 + 1), 30, #[.int .i64 0, .int .i64 0]), ((w.heap.size + 1), 30, #[.int .i64 n, .int .i64 (t : Nat)]), (w.heap.size, 30, #[.int .i64 m, .int .i64 (s : Nat)])] : List (Nat × TypeId × Array Value)), x.1 ≠ g := by simp <;> omega
            have z0 := kz.frozen 0; have q0 := kz.cell 0; have z1 := kz.frozen 1; have q1 := kz.cell 1; have z2 := kz.frozen 2; have q2 := kz.cell 2; have hF := hB.set3 (by omega) hlt (.bool c : Value) (.int .u64 (hi (P) : Nat) : Value) (.int .u64 (lo (P) : Nat) : Value); rw [Array.getD_eq_getD_getElem?] at e20; rw [Array.getD_eq_getD_getElem?] at e6; have e6' := e6.symm; clear e6; clear hS kz hB; go_simp; exact ⟨⟨g, rfl, hg, hF⟩, trivial, trivial⟩
    · intro a W' vals hd hsz hT hF hv hP hS
      obtain ⟨v0, v1, rfl⟩ : ∃ v0 v1, vals = [v0, v1] := by
        match vals, hv with
        | [x, y], _ => exact ⟨x, y, rfl⟩
      obtain ⟨g, hg0, hg, hB⟩ : ∃ g : Nat, v0 = .pointer (some ⟨g, 0, none⟩) ∧ w.heap.size + 3 ≤ g ∧ SB w 3 ([(g, 119, #[.bool c, .int .u64 (hi (P) : Nat), .int .u64 (lo (P) : Nat)]), ((w.heap.size + 1 + 1), 30, #[.int .i64 0, .int .i64 0]), ((w.heap.size + 1), 30, #[.int .i64 n, .int .i64 (t : Nat)]), (w.heap.size, 30, #[.int .i64 m, .int .i64 (s : Nat)])] : List (Nat × TypeId × Array Value)) W' := hS; subst hg0
      have e6 : a.tmps.getD 6 undef = .pointer (some ⟨g, 0, none⟩) := by
        have := hP 0 8 _ 6 rfl (by simp) rfl rfl
        simpa using this.symm
      have e2 : a.tmps.getD 2 undef = .pointer (some ⟨w.heap.size, 0, none⟩) := hT 2 (by simp); have e3 : a.tmps.getD 3 undef = .pointer (some ⟨(w.heap.size + 1), 0, none⟩) := hT 3 (by simp); have e4 : a.tmps.getD 4 undef = .pointer (some ⟨(w.heap.size + 1 + 1), 0, none⟩) := hT 4 (by simp); clear hT hF hP; rw [act_lit 45 a hd hsz]; simp only [List.range, List.range.loop, List.map, e2, e3, e4, e6]; clear e2 e3 e4 e6; have k7 := hB.bk _ (List.mem_cons_self ..); have c70 := k7.cell 0; have z70 := k7.frozen 0; have c71 := k7.cell 1; have z71 := k7.frozen 1; have c72 := k7.cell 2; have z72 := k7.frozen 2; clear k7; have k8 := hB.bk _ (.tail _ (.tail _ (.head _))); have c80 := k8.cell 0; have c81 := k8.cell 1; clear k8; have k9 := hB.bk _ (.tail _ (.tail _ (.tail _ (.head _)))); have c90 := k9.cell 0; have c91 := k9.cell 1; clear k9; have hcd := HCD.out; obtain ⟨hc, hd⟩ := hcd; have hne : ∀ x ∈ ([((w.heap.size + 1 + 1), 30, #[.int .i64 0, .int .i64 0]), ((w.heap.size + 1), 30, #[.int .i64 n, .int .i64 (t : Nat)]), (w.heap.size, 30, #[.int .i64 m, .int .i64 (s : Nat)])] : List (Nat × TypeId × Array Value)), x.1 ≠ g := by simp <;> omega
      have hF : SB w 3 ((g, 119, #[.bool (c != d), .int .u64 (hi P : Nat), .int .u64 (lo P : Nat)]) :: ([((w.heap.size + 1 + 1), 30, #[.int .i64 0, .int .i64 0]), ((w.heap.size + 1), 30, #[.int .i64 n, .int .i64 (t : Nat)]), (w.heap.size, 30, #[.int .i64 m, .int .i64 (s : Nat)])] : List (Nat × TypeId × Array Value))) (W'.setCell ⟨g, 0, none⟩ (.bool (c != d))) := by
        have := hB.set (by omega) hne 0 (.bool (c != d))
        simpa using this
      have HF := Lib.hid hF; have HNE := Lib.hid hne; have HG := Lib.hid hg; clear hB hF hne
      go_wp2_with fail
      refine (HD.out _).mono ?_; rintro e w2 ⟨rfl, hb⟩; have hB := HF.out.call hb; clear hb HF c70 z70 c71 z71 c72 z72 c80 c81 c90 c91; have k7 := hB.bk _ (.head _); have c70 := k7.cell 0; have c71 := k7.cell 1; have c72 := k7.cell 2; have z70 := k7.frozen 0; have z71 := k7.frozen 1; have z72 := k7.frozen 2; have hF := hB.set3 (by omega) HNE.out (.bool (c != d)) (.int .u64 (hi Q : Nat)) (.int .u64 (lo Q : Nat)); have HF := Lib.hid hF; clear hB k7 hF
      go_wp2_with fail
      refine (HTL.out _).mono ?_; rintro e w3 ⟨rfl, hb⟩; rw [dv_parts]; have HF2 := HF.out.call hb; clear hb HF c70 z70 c71 z71 c72 z72; have k4 := HF2.bk _ (.tail _ (.head _)); have hbel := HF2.bel; have c40 := k4.cell 0; have c41 := k4.cell 1; have z40 := k4.frozen 0; have z41 := k4.frozen 1; clear k4; clear HF2; go_wp2; refine bodyPost_ret (v := dv (tlb (c != d) Q 9)) ?_ rfl ⟨by rw [HV2.out], (hbel.setCell (by simp <;> omega) _).setCell (by simp <;> omega) _⟩; rw [dv_parts]; simp [results, Tryz.results36, go_sem, c40, c41]
  · have HP := Lib.hid hP; have HST := Lib.hid hst; have hs' : (s : Int) ≤ 9 := by omega
    have ht' : (t : Int) ≤ 9 := by omega
    have hst' : (s : Int) + (t : Int) ≤ 9 := by omega
    have HTL : Hid (∀ W : World, Calls Tryz.prog 87 #[.agg #[.bool (c != d), .int .u64 (hi P : Nat), .int .u64 (lo P : Nat)], .int .i64 ((s : Int) + (t : Int))] W fun e w' => e = .returned (dv (tlb (c != d) P (s + t))) ∧ Below W.heap.size W w') := Lib.hid (fun W => by
      have := tell_any (w := W) (b := c != d) (n := P) (s := s + t) (by omega) (by omega); rw [Int.natCast_add] at this
      exact this)
    have HV2 := Lib.hid (show mulD m s n t = tlb (c != d) P (s + t) by
      rw [HV.out (s + t) 0 (by omega) (by omega)]; rfl)
    clear hP hMN hNb hst hs ht HV hya; go_enter Tryz.func36, Tryz.ntmps36
    go_wp2_with fail
    refine (HK.out _).mono ?_; rintro e w1 ⟨rfl, hb⟩; have HSB := Lib.hid (H0.out.call hb); clear H0 hb; go_wp2
    refine wp_region_phases (S := (S2 w 3 ([((w.heap.size + 1 + 1), 30, #[.int .i64 0, .int .i64 0]), ((w.heap.size + 1), 30, #[.int .i64 n, .int .i64 (t : Nat)]), (w.heap.size, 30, #[.int .i64 m, .int .i64 (s : Nat)])] : List (Nat × TypeId × Array Value)) 119 #[.bool false, .int .u64 0, .int .u64 0] #[.bool c, .int .u64 (hi (P) : Nat), .int .u64 (lo (P) : Nat)])) (E := (fun _ _ => True)) [8, 9] [(2, Is (.pointer (some ⟨w.heap.size, 0, none⟩))), (3, Is (.pointer (some ⟨(w.heap.size + 1), 0, none⟩))), (4, Is (.pointer (some ⟨(w.heap.size + 1 + 1), 0, none⟩)))] [(13, Is (.pointer (some ⟨w.heap.size, 0, none⟩))), (14, Is (.int .i64 m)), (15, Is (wd c M)), (16, Is (.pointer (some ⟨(w.heap.size + 1), 0, none⟩))), (17, Is (.int .i64 n)), (18, Is (.agg #[.bool d, .int .u64 0, .int .u64 (N : Nat)])), (19, Is (.int .u64 (N : Nat))), (20, Is (.agg #[.bool c, .int .u64 (hi (P) : Nat), .int .u64 (lo (P) : Nat)]))]
      [.op [2] none, .op [13] none, .op [14] none, .op [3] none, .op [16] none, .op [17] none, .op [18] none, .op [15, 19] none, .phase 0 [] [], .phase 1 [20] [(0, 6)]] (by as_aux_lemma => kernel_rfl) ?_ ?_ ?_ ?_ ?_ ⟨stable_is _ _, stable_is _ _, stable_is _ _, stable_is _ _, stable_is _ _, stable_is _ _, stable_is _ _, stable_is _ _, stable_is _ _, stable_is _ _, stable_is _ _, trivial⟩ ?_ (HSB.out.drew) ?_ ?_
    · as_aux_lemma => kernel_rfl
    · as_aux_lemma => kernel_rfl
    · as_aux_lemma => kernel_rfl
    · as_aux_lemma => kernel_rfl
    · as_aux_lemma => kernel_rfl
    · exact ⟨rfl, rfl, rfl, trivial⟩
    · refine ⟨?_, ?_, ?_, ?_, ?_, ?_, ?_, ?_, ?_, ?_, trivial⟩
      · as_aux_lemma => intro vals a W hS hL; have e2 : a.tmps.getD 2 undef = .pointer (some ⟨w.heap.size, 0, none⟩) := hL.1; clear hL; go_simp; exact ⟨dstY (by rfl), hS, trivial⟩
      · as_aux_lemma => intro vals a W hS hL; have e13 : a.tmps.getD 13 undef = .pointer (some ⟨w.heap.size, 0, none⟩) := hL.1; clear hL; have kb : Bk W w.heap.size 30 #[.int .i64 m, .int .i64 (s : Nat)] := hS.bk (.tail _ (.tail _ (.head _))); have f0 := kb.cell 0; clear kb; go_simp; exact ⟨dstY (by rfl), hS, trivial⟩
      · as_aux_lemma => intro vals a W hS hL; have e14 : a.tmps.getD 14 undef = .int .i64 m := hL.1; clear hL; go_simp; refine (HX.out W).mono ?_; rintro e W' ⟨rfl, hb⟩; exact ⟨_, rfl, dstY (by rfl), hS.call hb, trivial⟩
      · as_aux_lemma => intro vals a W hS hL; have e3 : a.tmps.getD 3 undef = .pointer (some ⟨(w.heap.size + 1), 0, none⟩) := hL.1; clear hL; go_simp; exact ⟨dstY (by rfl), hS, trivial⟩
      · as_aux_lemma => intro vals a W hS hL; have e16 : a.tmps.getD 16 undef = .pointer (some ⟨(w.heap.size + 1), 0, none⟩) := hL.1; clear hL; have kb : Bk W (w.heap.size + 1) 30 #[.int .i64 n, .int .i64 (t : Nat)] := hS.bk (.tail _ (.head _)); have f0 := kb.cell 0; clear kb; go_simp; exact ⟨dstY (by rfl), hS, trivial⟩
      · as_aux_lemma => intro vals a W hS hL; have e17 : a.tmps.getD 17 undef = .int .i64 n := hL.1; clear hL; go_simp; refine (HY.out W).mono ?_; rintro e W' ⟨rfl, hb⟩; exact ⟨_, rfl, dstY (by rfl), hS.call hb, trivial⟩
      · as_aux_lemma => intro vals a W hS hL; have e18 : a.tmps.getD 18 undef = .agg #[.bool d, .int .u64 0, .int .u64 (N : Nat)] := hL.1; clear hL; go_simp; exact ⟨dstY (by rfl), hS, trivial⟩
      · as_aux_lemma => intro vals a W hS hL; have e15 : a.tmps.getD 15 undef = wd c M := hL.1; have e19 : a.tmps.getD 19 undef = .int .u64 (N : Nat) := hL.2.1; clear hL; go_simp; refine (HT.out W).mono ?_; rintro e W' ⟨rfl, hb⟩; exact ⟨_, rfl, dstY (by rfl), hS.call hb, trivial⟩
      · as_aux_lemma =>
          intro a W vals hv hS hL hp; clear hL
          match vals, hv, hS with
          | [], _, hS =>
            have hB : SB w 3 ([((w.heap.size + 1 + 1), 30, #[.int .i64 0, .int .i64 0]), ((w.heap.size + 1), 30, #[.int .i64 n, .int .i64 (t : Nat)]), (w.heap.size, 30, #[.int .i64 m, .int .i64 (s : Nat)])] : List (Nat × TypeId × Array Value)) W := hS; have hF := hB.alloc 119 #[.bool false, .int .u64 0, .int .u64 0]; have hz := hB.size; go_simp; exact ⟨⟨_, rfl, hz, hF⟩, trivial, trivial⟩
      · as_aux_lemma =>
          intro a W vals hv hS hL hp; have e20 : a.tmps.getD 20 undef = .agg #[.bool c, .int .u64 (hi (P) : Nat), .int .u64 (lo (P) : Nat)] := hL.1; clear hL
          match vals, hv, hS with
          | [v], _, hS =>
            obtain ⟨g, rfl, hg, hB⟩ := hS; have e6 := hp.1 (by simp); simp only [List.getElem?_cons_zero, Option.some.injEq] at e6; have kz := hB.bk _ (List.mem_cons_self ..); have hlt : ∀ x ∈ ([((w.heap.size + 1 + 1), 30, #[.int .i64 0, .int .i64 0]), ((w.heap.size + 1), 30, #[.int .i64 n, .int .i64 (t : Nat)]), (w.heap.size, 30, #[.int .i64 m, .int .i64 (s : Nat)])] : List (Nat × TypeId × Array Value)), x.1 ≠ g := by simp <;> omega
            have z0 := kz.frozen 0; have q0 := kz.cell 0; have z1 := kz.frozen 1; have q1 := kz.cell 1; have z2 := kz.frozen 2; have q2 := kz.cell 2; have hF := hB.set3 (by omega) hlt (.bool c : Value) (.int .u64 (hi (P) : Nat) : Value) (.int .u64 (lo (P) : Nat) : Value); rw [Array.getD_eq_getD_getElem?] at e20; rw [Array.getD_eq_getD_getElem?] at e6; have e6' := e6.symm; clear e6; clear hS kz hB; go_simp; exact ⟨⟨g, rfl, hg, hF⟩, trivial, trivial⟩
    · intro a W' vals hd hsz hT hF hv hP hS
      obtain ⟨v0, v1, rfl⟩ : ∃ v0 v1, vals = [v0, v1] := by
        match vals, hv with
        | [x, y], _ => exact ⟨x, y, rfl⟩
      obtain ⟨g, hg0, hg, hB⟩ : ∃ g : Nat, v0 = .pointer (some ⟨g, 0, none⟩) ∧ w.heap.size + 3 ≤ g ∧ SB w 3 ([(g, 119, #[.bool c, .int .u64 (hi (P) : Nat), .int .u64 (lo (P) : Nat)]), ((w.heap.size + 1 + 1), 30, #[.int .i64 0, .int .i64 0]), ((w.heap.size + 1), 30, #[.int .i64 n, .int .i64 (t : Nat)]), (w.heap.size, 30, #[.int .i64 m, .int .i64 (s : Nat)])] : List (Nat × TypeId × Array Value)) W' := hS; subst hg0
      have e6 : a.tmps.getD 6 undef = .pointer (some ⟨g, 0, none⟩) := by
        have := hP 0 8 _ 6 rfl (by simp) rfl rfl
        simpa using this.symm
      have e2 : a.tmps.getD 2 undef = .pointer (some ⟨w.heap.size, 0, none⟩) := hT 2 (by simp); have e3 : a.tmps.getD 3 undef = .pointer (some ⟨(w.heap.size + 1), 0, none⟩) := hT 3 (by simp); have e4 : a.tmps.getD 4 undef = .pointer (some ⟨(w.heap.size + 1 + 1), 0, none⟩) := hT 4 (by simp); clear hT hF hP; rw [act_lit 45 a hd hsz]; simp only [List.range, List.range.loop, List.map, e2, e3, e4, e6]; clear e2 e3 e4 e6; have k7 := hB.bk _ (List.mem_cons_self ..); have c70 := k7.cell 0; have z70 := k7.frozen 0; have c71 := k7.cell 1; have z71 := k7.frozen 1; have c72 := k7.cell 2; have z72 := k7.frozen 2; clear k7; have k8 := hB.bk _ (.tail _ (.tail _ (.head _))); have c80 := k8.cell 0; have c81 := k8.cell 1; clear k8; have k9 := hB.bk _ (.tail _ (.tail _ (.tail _ (.head _)))); have c90 := k9.cell 0; have c91 := k9.cell 1; clear k9; have hcd := HCD.out; obtain ⟨hc, hd⟩ := hcd; have hne : ∀ x ∈ ([((w.heap.size + 1 + 1), 30, #[.int .i64 0, .int .i64 0]), ((w.heap.size + 1), 30, #[.int .i64 n, .int .i64 (t : Nat)]), (w.heap.size, 30, #[.int .i64 m, .int .i64 (s : Nat)])] : List (Nat × TypeId × Array Value)), x.1 ≠ g := by simp <;> omega
      have hF : SB w 3 ((g, 119, #[.bool (c != d), .int .u64 (hi P : Nat), .int .u64 (lo P : Nat)]) :: ([((w.heap.size + 1 + 1), 30, #[.int .i64 0, .int .i64 0]), ((w.heap.size + 1), 30, #[.int .i64 n, .int .i64 (t : Nat)]), (w.heap.size, 30, #[.int .i64 m, .int .i64 (s : Nat)])] : List (Nat × TypeId × Array Value))) (W'.setCell ⟨g, 0, none⟩ (.bool (c != d))) := by
        have := hB.set (by omega) hne 0 (.bool (c != d))
        simpa using this
      have HF := Lib.hid hF; have HNE := Lib.hid hne; have HG := Lib.hid hg; clear hB hF hne
      go_wp2_with fail
      refine (HTL.out _).mono ?_; rintro e w3 ⟨rfl, hb⟩; rw [dv_parts]; have HF2 := HF.out.call hb; clear hb HF c70 z70 c71 z71 c72 z72 c80 c81 c90 c91; have k4 := HF2.bk _ (.tail _ (.head _)); have hbel := HF2.bel; have c40 := k4.cell 0; have c41 := k4.cell 1; have z40 := k4.frozen 0; have z41 := k4.frozen 1; clear k4; clear HF2; go_wp2; refine bodyPost_ret (v := dv (tlb (c != d) P (s + t))) ?_ rfl ⟨by rw [HV2.out], (hbel.setCell (by simp <;> omega) _).setCell (by simp <;> omega) _⟩; rw [dv_parts]; simp [results, Tryz.results36, go_sem, c40, c41]
end Go.Proofs.YtngkolcpbgibcaaGreatDoor
namespace Go.Proofs.YtngkolcpbgibcaaGreatDoor
open Go.RowKit
theorem divz_any {w : World} {m : Int} {s : Nat} (hx : Gd m s) :
    Calls Tryz.prog 35 #[.agg #[.int .i64 m, .int .i64 (s : Nat)], .agg #[.int .i64 0, .int .i64 0]] w fun e w' => e = .returned (.tuple #[.agg #[.int .i64 0, .int .i64 0], .int .i64 9]) ∧ Below w.heap.size w w' := by
  have HK := Lib.hid (fun W : World => taken_any (w := W) hx (show Gd 0 0 from ⟨by omega, by omega, by omega, .inl rfl⟩)); clear hx; go_enter Tryz.func35, Tryz.ntmps35
  go_wp2_with fail
  refine (HK.out _).mono ?_; rintro e w1 ⟨rfl, hb⟩; obtain ⟨k1, k2, k3, hb', -⟩ := bx3 hb; clear hb; have c20 := k2.cell 0; have z30 := k3.frozen 0; have z31 := k3.frozen 1; have c30 := k3.cell 0; have c31 := k3.cell 1; clear k1 k2 k3; go_wp2; refine bodyPost_ret (v := .tuple #[.agg #[.int .i64 0, .int .i64 0], .int .i64 9]) (by simp [results, Tryz.results35, go_sem, c30, c31]) rfl ⟨rfl, (hb'.setCell (by simp <;> omega) _).setCell (by simp <;> omega) _⟩
set_option maxRecDepth 100000 in
set_option maxHeartbeats 2000000 in
theorem div_any {w : World} {m n : Int} {s t : Nat} (hx : Gd m s) (hy : Gd n t) (hn : n ≠ 0) :
    Calls Tryz.prog 35 #[.agg #[.int .i64 m, .int .i64 (s : Nat)], .agg #[.int .i64 n, .int .i64 (t : Nat)]] w fun e w' => e = .returned (dv (divD m s n t)) ∧ Below w.heap.size w w' := by
  have HK := Lib.hid (fun W : World => taken_any (w := W) hx hy); have HX := Lib.hid (fun W : World => widen_any (w := W) hx.lo hx.hi); have HY := Lib.hid (fun W : World => widen_small (w := W) hy); have hs := hx.s9; have ht := hy.s9; have hxa := hx.abs; have hya := hy.abs; have hp : 10 ^ (9 + t - s) ≤ 10 ^ 18 := pow10_le (by omega); have hMK : m.natAbs * 10 ^ (9 + t - s) ≤ 9223372036854775808 * 1000000000000000000 := Nat.mul_le_mul hxa (by omega); have HP := Lib.hid (fun W : World => power_b (w := W) (k := 9 + t - s) (by omega)); have HV := Lib.hid (show divD m s n t = tlb (decide (m < 0) != decide (n < 0)) (quo (m.natAbs * 10 ^ (9 + t - s)) n.natAbs) 9 by rw [tlb_eq]; rfl); have hN0 : 0 < n.natAbs := by omega
  obtain ⟨c, hc⟩ : ∃ c, decide (m < 0) = c := ⟨_, rfl⟩
  obtain ⟨d, hd⟩ : ∃ d, decide (n < 0) = d := ⟨_, rfl⟩
  rw [hc] at HX HV; rw [hd] at HY HV; have HCD := Lib.hid (And.intro hc hd); have HNZ := Lib.hid (show (n == 0) = false by simpa using hn)
  have HSUB := Lib.hid (show IntKind.i64.wrap (9 + (t : Int)) = 9 + (t : Int) ∧ IntKind.i64.wrap (9 + (t : Int) - (s : Int)) = ((9 + t - s : Nat) : Int) by
    rw [show ((9 + t - s : Nat) : Int) = 9 + (t : Int) - (s : Int) by omega]
    exact ⟨IntWalk.i64_in _ (by omega), IntWalk.i64_in _ (by omega)⟩)
  clear hc hd hx hy hn; generalize m.natAbs = M at *; generalize n.natAbs = N at *; generalize 10 ^ (9 + t - s) = K at *; have HT := Lib.hid (fun W : World => times_any (w := W) (b := c) (n := M) (k := K) (by omega) (by omega)); generalize M * K = P at *; have HO := Lib.hid (fun W : World => over_any (w := W) (b := c) (n := P) (k := N) (by omega) (by omega) hN0); have hqle := Nat.div_le_self P N; have hrlt := Nat.mod_lt P hN0; have HQU := Lib.hid (show quo P N = P / N + if N ≤ 2 * (P % N) then 1 else 0 from rfl); generalize P / N = Q at *; generalize P % N = R at *; have HG := Lib.hid (fun W : World => grow_any (w := W) (b := c) (n := Q) (by omega)); have H0 : Hid (SB w 3 ([((w.heap.size + 1 + 1), 30, #[.int .i64 0, .int .i64 0]), ((w.heap.size + 1), 30, #[.int .i64 n, .int .i64 (t : Nat)]), (w.heap.size, 30, #[.int .i64 m, .int .i64 (s : Nat)])] : List (Nat × TypeId × Array Value)) (((w.alloc (.cells #[.int .i64 m, .int .i64 (s : Nat)] 30)).alloc (.cells #[.int .i64 n, .int .i64 (t : Nat)] 30)).alloc (.cells #[.int .i64 0, .int .i64 0] 30))) := Lib.hid (((sb1 w 30 _).push (by simp) 30 _).push (by simp) 30 _)
  by_cases hh : N ≤ 2 * R
  · have HV2 := Lib.hid (show divD m s n t = tlb (c != d) (Q + 1) 9 by rw [HV.out, HQU.out, if_pos hh]); have hcond : (N : Int) - (R : Int) ≤ (R : Int) := by omega
    have hrn : (R : Int) < (N : Int) := by omega
    have hNb : (N : Int) < 18446744073709551616 := by omega
    have HTL : Hid (∀ W : World, Calls Tryz.prog 87 #[.agg #[.bool (c != d), .int .u64 (hi (Q + 1) : Nat), .int .u64 (lo (Q + 1) : Nat)], .int .i64 9] W fun e w' => e = .returned (dv (tlb (c != d) (Q + 1) 9)) ∧ Below W.heap.size W w') := Lib.hid (fun W => tell_any (w := W) (b := c != d) (n := (Q + 1)) (s := 9) (by omega) (by omega)); have HCO := Lib.hid hcond; have HRN := Lib.hid (And.intro hrn hNb); clear hh hs ht hxa hya hp hMK hN0 hqle hrlt HV HQU hcond hrn hNb; go_enter Tryz.func35, Tryz.ntmps35
    go_wp2_with fail
    refine (HK.out _).mono ?_; rintro e w1 ⟨rfl, hb⟩; have HB1 := Lib.hid (H0.out.call hb); clear H0 hb; have k3 := HB1.out.bk _ (.tail _ (.head _)); have c30 := k3.cell 0; have hnz := HNZ.out; clear k3
    go_wp2_with fail
    refine (HY.out _).mono ?_; rintro e w2 ⟨rfl, hb⟩; have HSB := Lib.hid (HB1.out.call hb); clear HB1 hb c30 hnz; have hfl : (Instr.field 119 (.agg #[.bool d, .int .u64 0, .int .u64 (N : Nat)]) 2).run Tryz.prog w2 = .ok (.int .u64 (N : Nat)) w2 := rfl; go_wp2; clear hfl
    refine wp_region_phases (S := (S2 w 3 ([((w.heap.size + 1 + 1), 30, #[.int .i64 0, .int .i64 0]), ((w.heap.size + 1), 30, #[.int .i64 n, .int .i64 (t : Nat)]), (w.heap.size, 30, #[.int .i64 m, .int .i64 (s : Nat)])] : List (Nat × TypeId × Array Value)) 119 #[.bool false, .int .u64 0, .int .u64 0] #[.bool c, .int .u64 (hi (Q) : Nat), .int .u64 (lo (Q) : Nat)])) (E := (fun _ _ => True)) [16, 17] [(2, Is (.pointer (some ⟨w.heap.size, 0, none⟩))), (3, Is (.pointer (some ⟨(w.heap.size + 1), 0, none⟩))), (4, Is (.pointer (some ⟨(w.heap.size + 1 + 1), 0, none⟩))), (6, Is (.int .u64 (N : Nat)))] [(23, Is (.pointer (some ⟨w.heap.size, 0, none⟩))), (24, Is (.int .i64 m)), (25, Is (wd c M)), (26, Is (.pointer (some ⟨(w.heap.size + 1), 1, none⟩))), (27, Is (.int .i64 (t : Nat))), (28, Is (.int .i64 (9 + (t : Int)))), (29, Is (.pointer (some ⟨w.heap.size, 1, none⟩))), (30, Is (.int .i64 (s : Nat))), (31, Is (.int .i64 ((9 + t - s : Nat) : Int))), (32, Is (.int .u64 (K : Nat))), (33, Is (wd c P)), (34, Is (.int .u64 (N : Nat))), (35, Is (.tuple #[.agg #[.bool c, .int .u64 (hi (Q) : Nat), .int .u64 (lo (Q) : Nat)], .int .u64 (R : Nat)])), (22, Is (.tuple #[.agg #[.bool c, .int .u64 (hi (Q) : Nat), .int .u64 (lo (Q) : Nat)], .int .u64 (R : Nat)])), (36, Is (.agg #[.bool c, .int .u64 (hi (Q) : Nat), .int .u64 (lo (Q) : Nat)])), (37, Is (.int .u64 (R : Nat))), (8, Is (.int .u64 (R : Nat)))]
      [.op [2] none, .op [23] none, .op [24] none, .op [3] none, .op [26] none, .op [27] none, .op [2] none, .op [29] none, .op [28, 30] none, .op [31] none, .op [25, 32] none, .op [6] none, .op [33, 34] none, .op [35] none, .op [22] none, .op [22] none, .phase 0 [] [], .phase 1 [36] [(0, 7)], .op [37] none] (by as_aux_lemma => kernel_rfl) ?_ ?_ ?_ ?_ ?_ ⟨stable_is _ _, stable_is _ _, stable_is _ _, stable_is _ _, stable_is _ _, stable_is _ _, stable_is _ _, stable_is _ _, stable_is _ _, stable_is _ _, stable_is _ _, stable_is _ _, stable_is _ _, stable_is _ _, stable_is _ _, stable_is _ _, stable_is _ _, stable_is _ _, stable_is _ _, stable_is _ _, stable_is _ _, trivial⟩ ?_ (HSB.out.drew) ?_ ?_
    · as_aux_lemma => kernel_rfl
    · as_aux_lemma => kernel_rfl
    · as_aux_lemma => kernel_rfl
    · as_aux_lemma => kernel_rfl
    · as_aux_lemma => kernel_rfl
    · exact ⟨rfl, rfl, rfl, rfl, trivial⟩
    · refine ⟨?_, ?_, ?_, ?_, ?_, ?_, ?_, ?_, ?_, ?_, ?_, ?_, ?_, ?_, ?_, ?_, ?_, ?_, ?_, trivial⟩
      · as_aux_lemma => intro vals a W hS hL; have e2 : a.tmps.getD 2 undef = .pointer (some ⟨w.heap.size, 0, none⟩) := hL.1; clear hL; go_simp; exact ⟨dstY (by rfl), hS, trivial⟩
      · as_aux_lemma => intro vals a W hS hL; have e23 : a.tmps.getD 23 undef = .pointer (some ⟨w.heap.size, 0, none⟩) := hL.1; clear hL; have kb : Bk W w.heap.size 30 #[.int .i64 m, .int .i64 (s : Nat)] := hS.bk (.tail _ (.tail _ (.head _))); have f0 := kb.cell 0; clear kb; go_simp; exact ⟨dstY (by rfl), hS, trivial⟩
      · as_aux_lemma => intro vals a W hS hL; have e24 : a.tmps.getD 24 undef = .int .i64 m := hL.1; clear hL; go_simp; refine (HX.out W).mono ?_; rintro e W' ⟨rfl, hb⟩; exact ⟨_, rfl, dstY (by rfl), hS.call hb, trivial⟩
      · as_aux_lemma => intro vals a W hS hL; have e3 : a.tmps.getD 3 undef = .pointer (some ⟨(w.heap.size + 1), 0, none⟩) := hL.1; clear hL; go_simp; exact ⟨dstY (by rfl), hS, trivial⟩
      · as_aux_lemma => intro vals a W hS hL; have e26 : a.tmps.getD 26 undef = .pointer (some ⟨(w.heap.size + 1), 1, none⟩) := hL.1; clear hL; have kb : Bk W (w.heap.size + 1) 30 #[.int .i64 n, .int .i64 (t : Nat)] := hS.bk (.tail _ (.head _)); have f1 := kb.cell 1; clear kb; go_simp; exact ⟨dstY (by rfl), hS, trivial⟩
      · as_aux_lemma => intro vals a W hS hL; have e27 : a.tmps.getD 27 undef = .int .i64 (t : Nat) := hL.1; clear hL; have hsub := HSUB.out.1; go_simp; exact ⟨dstY (by rfl), hS, trivial⟩
      · as_aux_lemma => intro vals a W hS hL; have e2 : a.tmps.getD 2 undef = .pointer (some ⟨w.heap.size, 0, none⟩) := hL.1; clear hL; go_simp; exact ⟨dstY (by rfl), hS, trivial⟩
      · as_aux_lemma => intro vals a W hS hL; have e29 : a.tmps.getD 29 undef = .pointer (some ⟨w.heap.size, 1, none⟩) := hL.1; clear hL; have kb : Bk W w.heap.size 30 #[.int .i64 m, .int .i64 (s : Nat)] := hS.bk (.tail _ (.tail _ (.head _))); have f1 := kb.cell 1; clear kb; go_simp; exact ⟨dstY (by rfl), hS, trivial⟩
      · as_aux_lemma => intro vals a W hS hL; have e28 : a.tmps.getD 28 undef = .int .i64 (9 + (t : Int)) := hL.1; have e30 : a.tmps.getD 30 undef = .int .i64 (s : Nat) := hL.2.1; clear hL; have hsub := HSUB.out.2; go_simp; exact ⟨dstY (by rfl), hS, trivial⟩
      · as_aux_lemma => intro vals a W hS hL; have e31 : a.tmps.getD 31 undef = .int .i64 ((9 + t - s : Nat) : Int) := hL.1; clear hL; go_simp; refine (HP.out W).mono ?_; rintro e W' ⟨rfl, hb⟩; exact ⟨_, rfl, dstY (by rfl), hS.call hb, trivial⟩
      · as_aux_lemma => intro vals a W hS hL; have e25 : a.tmps.getD 25 undef = wd c M := hL.1; have e32 : a.tmps.getD 32 undef = .int .u64 (K : Nat) := hL.2.1; clear hL; go_simp; refine (HT.out W).mono ?_; rintro e W' ⟨rfl, hb⟩; exact ⟨_, rfl, dstY (by rfl), hS.call hb, trivial⟩
      · as_aux_lemma => intro vals a W hS hL; have e6 : a.tmps.getD 6 undef = .int .u64 (N : Nat) := hL.1; clear hL; go_simp; exact ⟨dstY (by rfl), hS, trivial⟩
      · as_aux_lemma => intro vals a W hS hL; have e33 : a.tmps.getD 33 undef = wd c P := hL.1; have e34 : a.tmps.getD 34 undef = .int .u64 (N : Nat) := hL.2.1; clear hL; go_simp; refine (HO.out W).mono ?_; rintro e W' ⟨rfl, hb⟩; exact ⟨_, rfl, dstY (by rfl), hS.call hb, trivial⟩
      · as_aux_lemma => intro vals a W hS hL; have e35 : a.tmps.getD 35 undef = .tuple #[.agg #[.bool c, .int .u64 (hi (Q) : Nat), .int .u64 (lo (Q) : Nat)], .int .u64 (R : Nat)] := hL.1; clear hL; go_simp; exact ⟨dstY (by rfl), hS, trivial⟩
      · as_aux_lemma => intro vals a W hS hL; have e22 : a.tmps.getD 22 undef = .tuple #[.agg #[.bool c, .int .u64 (hi (Q) : Nat), .int .u64 (lo (Q) : Nat)], .int .u64 (R : Nat)] := hL.1; clear hL; go_simp; exact ⟨dstY (by rfl), hS, trivial⟩
      · as_aux_lemma => intro vals a W hS hL; have e22 : a.tmps.getD 22 undef = .tuple #[.agg #[.bool c, .int .u64 (hi (Q) : Nat), .int .u64 (lo (Q) : Nat)], .int .u64 (R : Nat)] := hL.1; clear hL; go_simp; exact ⟨dstY (by rfl), hS, trivial⟩
      · as_aux_lemma =>
          intro a W vals hv hS hL hp; clear hL
          match vals, hv, hS with
          | [], _, hS =>
            have hB : SB w 3 ([((w.heap.size + 1 + 1), 30, #[.int .i64 0, .int .i64 0]), ((w.heap.size + 1), 30, #[.int .i64 n, .int .i64 (t : Nat)]), (w.heap.size, 30, #[.int .i64 m, .int .i64 (s : Nat)])] : List (Nat × TypeId × Array Value)) W := hS; have hF := hB.alloc 119 #[.bool false, .int .u64 0, .int .u64 0]; have hz := hB.size; go_simp; exact ⟨⟨_, rfl, hz, hF⟩, trivial, trivial⟩
      · as_aux_lemma =>
          intro a W vals hv hS hL hp; have e36 : a.tmps.getD 36 undef = .agg #[.bool c, .int .u64 (hi (Q) : Nat), .int .u64 (lo (Q) : Nat)] := hL.1; clear hL
          match vals, hv, hS with
          | [v], _, hS =>
            obtain ⟨g, rfl, hg, hB⟩ := hS; have e7 := hp.1 (by simp); simp only [List.getElem?_cons_zero, Option.some.injEq] at e7; have kz := hB.bk _ (List.mem_cons_self ..); have hlt : ∀ x ∈ ([((w.heap.size + 1 + 1), 30, #[.int .i64 0, .int .i64 0]), ((w.heap.size + 1), 30, #[.int .i64 n, .int .i64 (t : Nat)]), (w.heap.size, 30, #[.int .i64 m, .int .i64 (s : Nat)])] : List (Nat × TypeId × Array Value)), x.1 ≠ g := by simp <;> omega
            have z0 := kz.frozen 0; have q0 := kz.cell 0; have z1 := kz.frozen 1; have q1 := kz.cell 1; have z2 := kz.frozen 2; have q2 := kz.cell 2; have hF := hB.set3 (by omega) hlt (.bool c : Value) (.int .u64 (hi (Q) : Nat) : Value) (.int .u64 (lo (Q) : Nat) : Value); rw [Array.getD_eq_getD_getElem?] at e36; rw [Array.getD_eq_getD_getElem?] at e7; have e7' := e7.symm; clear e7; clear hS kz hB; go_simp; exact ⟨⟨g, rfl, hg, hF⟩, trivial, trivial⟩
      · as_aux_lemma => intro vals a W hS hL; have e37 : a.tmps.getD 37 undef = .int .u64 (R : Nat) := hL.1; clear hL; go_simp; exact ⟨dstY (by rfl), hS, trivial⟩
    · intro a W' vals hd hsz hT hF hv hP hS
      obtain ⟨v0, v1, rfl⟩ : ∃ v0 v1, vals = [v0, v1] := by
        match vals, hv with
        | [x, y], _ => exact ⟨x, y, rfl⟩
      obtain ⟨g, hg0, hg, hB⟩ : ∃ g : Nat, v0 = .pointer (some ⟨g, 0, none⟩) ∧ w.heap.size + 3 ≤ g ∧ SB w 3 ([(g, 119, #[.bool c, .int .u64 (hi (Q) : Nat), .int .u64 (lo (Q) : Nat)]), ((w.heap.size + 1 + 1), 30, #[.int .i64 0, .int .i64 0]), ((w.heap.size + 1), 30, #[.int .i64 n, .int .i64 (t : Nat)]), (w.heap.size, 30, #[.int .i64 m, .int .i64 (s : Nat)])] : List (Nat × TypeId × Array Value)) W' := hS; subst hg0
      have e7 : a.tmps.getD 7 undef = .pointer (some ⟨g, 0, none⟩) := by
        have := hP 0 16 _ 7 rfl (by simp) rfl rfl
        simpa using this.symm
      have e2 : a.tmps.getD 2 undef = .pointer (some ⟨w.heap.size, 0, none⟩) := hT 2 (by simp); have e3 : a.tmps.getD 3 undef = .pointer (some ⟨(w.heap.size + 1), 0, none⟩) := hT 3 (by simp); have e4 : a.tmps.getD 4 undef = .pointer (some ⟨(w.heap.size + 1 + 1), 0, none⟩) := hT 4 (by simp); have e6 : a.tmps.getD 6 undef = .int .u64 (N : Nat) := hT 6 (by simp); have e8 : a.tmps.getD 8 undef = .int .u64 (R : Nat) := hT 8 (by simp); clear hT hF hP; rw [act_lit 57 a hd hsz]; simp only [List.range, List.range.loop, List.map, e2, e3, e4, e6, e8, e7]; clear e2 e3 e4 e6 e8 e7; have k7 := hB.bk _ (List.mem_cons_self ..); have c70 := k7.cell 0; have z70 := k7.frozen 0; have c71 := k7.cell 1; have z71 := k7.frozen 1; have c72 := k7.cell 2; have z72 := k7.frozen 2; clear k7; have k8 := hB.bk _ (.tail _ (.tail _ (.head _))); have c80 := k8.cell 0; have c81 := k8.cell 1; clear k8; have k9 := hB.bk _ (.tail _ (.tail _ (.tail _ (.head _)))); have c90 := k9.cell 0; have c91 := k9.cell 1; clear k9; have HF1 := Lib.hid hB; have hco := HCO.out; have hrn := HRN.out.1; have hNb := HRN.out.2; have HG0 := Lib.hid hg; clear hB hg
      go_wp2_with fail
      refine (HG.out _).mono ?_; rintro e w3 ⟨rfl, hb⟩; rw [wd_parts]; have hg := HG0.out; have hB0 := HF1.out.call hb; have hne : ∀ x ∈ ([((w.heap.size + 1 + 1), 30, #[.int .i64 0, .int .i64 0]), ((w.heap.size + 1), 30, #[.int .i64 n, .int .i64 (t : Nat)]), (w.heap.size, 30, #[.int .i64 m, .int .i64 (s : Nat)])] : List (Nat × TypeId × Array Value)), x.1 ≠ g := by simp <;> omega
      clear hb HF1 hco hrn hNb c70 z70 c71 z71 c72 z72 c80 c81 c90 c91; have k7 := hB0.bk _ (.head _); have q70 := k7.cell 0; have q71 := k7.cell 1; have q72 := k7.cell 2; have y70 := k7.frozen 0; have y71 := k7.frozen 1; have y72 := k7.frozen 2; have hB := hB0.set3 (by omega) hne (.bool c) (.int .u64 (hi (Q + 1) : Nat)) (.int .u64 (lo (Q + 1) : Nat)); clear k7 hB0 hne; have k8 := hB.bk _ (.tail _ (.tail _ (.head _))); have c80 := k8.cell 0; have c81 := k8.cell 1; clear k8; have k9 := hB.bk _ (.tail _ (.tail _ (.tail _ (.head _)))); have c90 := k9.cell 0; have c91 := k9.cell 1; clear k9; have HBB := Lib.hid hB; have hcd := HCD.out; obtain ⟨hc, hd⟩ := hcd; have hne : ∀ x ∈ ([((w.heap.size + 1 + 1), 30, #[.int .i64 0, .int .i64 0]), ((w.heap.size + 1), 30, #[.int .i64 n, .int .i64 (t : Nat)]), (w.heap.size, 30, #[.int .i64 m, .int .i64 (s : Nat)])] : List (Nat × TypeId × Array Value)), x.1 ≠ g := by simp <;> omega
      have hF : SB w 3 ((g, 119, #[.bool (c != d), .int .u64 (hi (Q + 1) : Nat), .int .u64 (lo (Q + 1) : Nat)]) :: ([((w.heap.size + 1 + 1), 30, #[.int .i64 0, .int .i64 0]), ((w.heap.size + 1), 30, #[.int .i64 n, .int .i64 (t : Nat)]), (w.heap.size, 30, #[.int .i64 m, .int .i64 (s : Nat)])] : List (Nat × TypeId × Array Value))) ((((w3.setCell ⟨g, 0, none⟩ (.bool c)).setCell ⟨g, 1, none⟩ (.int .u64 (hi (Q + 1) : Nat))).setCell ⟨g, 2, none⟩ (.int .u64 (lo (Q + 1) : Nat))).setCell ⟨g, 0, none⟩ (.bool (c != d))) := by
        have := HBB.out.set (by omega) hne 0 (.bool (c != d))
        simpa using this
      have HF := Lib.hid hF; have HG2 := Lib.hid hg; clear hB hF hne hg HBB
      go_wp2_with fail
      refine (HTL.out _).mono ?_; rintro e w4 ⟨rfl, hb⟩; rw [dv_parts]; have HF2 := HF.out.call hb; clear hb HF c80 c81 c90 c91 q70 q71 q72 y70 y71 y72; have k4 := HF2.bk _ (.tail _ (.head _)); have hbel := HF2.bel; have c40 := k4.cell 0; have c41 := k4.cell 1; have z40 := k4.frozen 0; have z41 := k4.frozen 1; clear k4 HF2; go_wp2; refine bodyPost_ret (v := dv (tlb (c != d) (Q + 1) 9)) ?_ rfl ⟨by rw [HV2.out], (hbel.setCell (by simp <;> omega) _).setCell (by simp <;> omega) _⟩; rw [dv_parts]; simp [results, Tryz.results35, go_sem, c40, c41]
  · have HV2 := Lib.hid (show divD m s n t = tlb (c != d) Q 9 by rw [HV.out, HQU.out, if_neg hh, Nat.add_zero]); have hcond : decide ((N : Int) - (R : Int) ≤ (R : Int)) = false := decide_eq_false (by omega); have hrn : (R : Int) < (N : Int) := by omega
    have hNb : (N : Int) < 18446744073709551616 := by omega
    have HTL : Hid (∀ W : World, Calls Tryz.prog 87 #[.agg #[.bool (c != d), .int .u64 (hi Q : Nat), .int .u64 (lo Q : Nat)], .int .i64 9] W fun e w' => e = .returned (dv (tlb (c != d) Q 9)) ∧ Below W.heap.size W w') := Lib.hid (fun W => tell_any (w := W) (b := c != d) (n := Q) (s := 9) (by omega) (by omega)); have HCO := Lib.hid hcond; have HRN := Lib.hid (And.intro hrn hNb); clear hh hs ht hxa hya hp hMK hN0 hqle hrlt HV HQU hcond hrn hNb; go_enter Tryz.func35, Tryz.ntmps35
    go_wp2_with fail
    refine (HK.out _).mono ?_; rintro e w1 ⟨rfl, hb⟩; have HB1 := Lib.hid (H0.out.call hb); clear H0 hb; have k3 := HB1.out.bk _ (.tail _ (.head _)); have c30 := k3.cell 0; have hnz := HNZ.out; clear k3
    go_wp2_with fail
    refine (HY.out _).mono ?_; rintro e w2 ⟨rfl, hb⟩; have HSB := Lib.hid (HB1.out.call hb); clear HB1 hb c30 hnz; have hfl : (Instr.field 119 (.agg #[.bool d, .int .u64 0, .int .u64 (N : Nat)]) 2).run Tryz.prog w2 = .ok (.int .u64 (N : Nat)) w2 := rfl; go_wp2; clear hfl
    refine wp_region_phases (S := (S2 w 3 ([((w.heap.size + 1 + 1), 30, #[.int .i64 0, .int .i64 0]), ((w.heap.size + 1), 30, #[.int .i64 n, .int .i64 (t : Nat)]), (w.heap.size, 30, #[.int .i64 m, .int .i64 (s : Nat)])] : List (Nat × TypeId × Array Value)) 119 #[.bool false, .int .u64 0, .int .u64 0] #[.bool c, .int .u64 (hi (Q) : Nat), .int .u64 (lo (Q) : Nat)])) (E := (fun _ _ => True)) [16, 17] [(2, Is (.pointer (some ⟨w.heap.size, 0, none⟩))), (3, Is (.pointer (some ⟨(w.heap.size + 1), 0, none⟩))), (4, Is (.pointer (some ⟨(w.heap.size + 1 + 1), 0, none⟩))), (6, Is (.int .u64 (N : Nat)))] [(23, Is (.pointer (some ⟨w.heap.size, 0, none⟩))), (24, Is (.int .i64 m)), (25, Is (wd c M)), (26, Is (.pointer (some ⟨(w.heap.size + 1), 1, none⟩))), (27, Is (.int .i64 (t : Nat))), (28, Is (.int .i64 (9 + (t : Int)))), (29, Is (.pointer (some ⟨w.heap.size, 1, none⟩))), (30, Is (.int .i64 (s : Nat))), (31, Is (.int .i64 ((9 + t - s : Nat) : Int))), (32, Is (.int .u64 (K : Nat))), (33, Is (wd c P)), (34, Is (.int .u64 (N : Nat))), (35, Is (.tuple #[.agg #[.bool c, .int .u64 (hi (Q) : Nat), .int .u64 (lo (Q) : Nat)], .int .u64 (R : Nat)])), (22, Is (.tuple #[.agg #[.bool c, .int .u64 (hi (Q) : Nat), .int .u64 (lo (Q) : Nat)], .int .u64 (R : Nat)])), (36, Is (.agg #[.bool c, .int .u64 (hi (Q) : Nat), .int .u64 (lo (Q) : Nat)])), (37, Is (.int .u64 (R : Nat))), (8, Is (.int .u64 (R : Nat)))]
      [.op [2] none, .op [23] none, .op [24] none, .op [3] none, .op [26] none, .op [27] none, .op [2] none, .op [29] none, .op [28, 30] none, .op [31] none, .op [25, 32] none, .op [6] none, .op [33, 34] none, .op [35] none, .op [22] none, .op [22] none, .phase 0 [] [], .phase 1 [36] [(0, 7)], .op [37] none] (by as_aux_lemma => kernel_rfl) ?_ ?_ ?_ ?_ ?_ ⟨stable_is _ _, stable_is _ _, stable_is _ _, stable_is _ _, stable_is _ _, stable_is _ _, stable_is _ _, stable_is _ _, stable_is _ _, stable_is _ _, stable_is _ _, stable_is _ _, stable_is _ _, stable_is _ _, stable_is _ _, stable_is _ _, stable_is _ _, stable_is _ _, stable_is _ _, stable_is _ _, stable_is _ _, trivial⟩ ?_ (HSB.out.drew) ?_ ?_
    · as_aux_lemma => kernel_rfl
    · as_aux_lemma => kernel_rfl
    · as_aux_lemma => kernel_rfl
    · as_aux_lemma => kernel_rfl
    · as_aux_lemma => kernel_rfl
    · exact ⟨rfl, rfl, rfl, rfl, trivial⟩
    · refine ⟨?_, ?_, ?_, ?_, ?_, ?_, ?_, ?_, ?_, ?_, ?_, ?_, ?_, ?_, ?_, ?_, ?_, ?_, ?_, trivial⟩
      · as_aux_lemma => intro vals a W hS hL; have e2 : a.tmps.getD 2 undef = .pointer (some ⟨w.heap.size, 0, none⟩) := hL.1; clear hL; go_simp; exact ⟨dstY (by rfl), hS, trivial⟩
      · as_aux_lemma => intro vals a W hS hL; have e23 : a.tmps.getD 23 undef = .pointer (some ⟨w.heap.size, 0, none⟩) := hL.1; clear hL; have kb : Bk W w.heap.size 30 #[.int .i64 m, .int .i64 (s : Nat)] := hS.bk (.tail _ (.tail _ (.head _))); have f0 := kb.cell 0; clear kb; go_simp; exact ⟨dstY (by rfl), hS, trivial⟩
      · as_aux_lemma => intro vals a W hS hL; have e24 : a.tmps.getD 24 undef = .int .i64 m := hL.1; clear hL; go_simp; refine (HX.out W).mono ?_; rintro e W' ⟨rfl, hb⟩; exact ⟨_, rfl, dstY (by rfl), hS.call hb, trivial⟩
      · as_aux_lemma => intro vals a W hS hL; have e3 : a.tmps.getD 3 undef = .pointer (some ⟨(w.heap.size + 1), 0, none⟩) := hL.1; clear hL; go_simp; exact ⟨dstY (by rfl), hS, trivial⟩
      · as_aux_lemma => intro vals a W hS hL; have e26 : a.tmps.getD 26 undef = .pointer (some ⟨(w.heap.size + 1), 1, none⟩) := hL.1; clear hL; have kb : Bk W (w.heap.size + 1) 30 #[.int .i64 n, .int .i64 (t : Nat)] := hS.bk (.tail _ (.head _)); have f1 := kb.cell 1; clear kb; go_simp; exact ⟨dstY (by rfl), hS, trivial⟩
      · as_aux_lemma => intro vals a W hS hL; have e27 : a.tmps.getD 27 undef = .int .i64 (t : Nat) := hL.1; clear hL; have hsub := HSUB.out.1; go_simp; exact ⟨dstY (by rfl), hS, trivial⟩
      · as_aux_lemma => intro vals a W hS hL; have e2 : a.tmps.getD 2 undef = .pointer (some ⟨w.heap.size, 0, none⟩) := hL.1; clear hL; go_simp; exact ⟨dstY (by rfl), hS, trivial⟩
      · as_aux_lemma => intro vals a W hS hL; have e29 : a.tmps.getD 29 undef = .pointer (some ⟨w.heap.size, 1, none⟩) := hL.1; clear hL; have kb : Bk W w.heap.size 30 #[.int .i64 m, .int .i64 (s : Nat)] := hS.bk (.tail _ (.tail _ (.head _))); have f1 := kb.cell 1; clear kb; go_simp; exact ⟨dstY (by rfl), hS, trivial⟩
      · as_aux_lemma => intro vals a W hS hL; have e28 : a.tmps.getD 28 undef = .int .i64 (9 + (t : Int)) := hL.1; have e30 : a.tmps.getD 30 undef = .int .i64 (s : Nat) := hL.2.1; clear hL; have hsub := HSUB.out.2; go_simp; exact ⟨dstY (by rfl), hS, trivial⟩
      · as_aux_lemma => intro vals a W hS hL; have e31 : a.tmps.getD 31 undef = .int .i64 ((9 + t - s : Nat) : Int) := hL.1; clear hL; go_simp; refine (HP.out W).mono ?_; rintro e W' ⟨rfl, hb⟩; exact ⟨_, rfl, dstY (by rfl), hS.call hb, trivial⟩
      · as_aux_lemma => intro vals a W hS hL; have e25 : a.tmps.getD 25 undef = wd c M := hL.1; have e32 : a.tmps.getD 32 undef = .int .u64 (K : Nat) := hL.2.1; clear hL; go_simp; refine (HT.out W).mono ?_; rintro e W' ⟨rfl, hb⟩; exact ⟨_, rfl, dstY (by rfl), hS.call hb, trivial⟩
      · as_aux_lemma => intro vals a W hS hL; have e6 : a.tmps.getD 6 undef = .int .u64 (N : Nat) := hL.1; clear hL; go_simp; exact ⟨dstY (by rfl), hS, trivial⟩
      · as_aux_lemma => intro vals a W hS hL; have e33 : a.tmps.getD 33 undef = wd c P := hL.1; have e34 : a.tmps.getD 34 undef = .int .u64 (N : Nat) := hL.2.1; clear hL; go_simp; refine (HO.out W).mono ?_; rintro e W' ⟨rfl, hb⟩; exact ⟨_, rfl, dstY (by rfl), hS.call hb, trivial⟩
      · as_aux_lemma => intro vals a W hS hL; have e35 : a.tmps.getD 35 undef = .tuple #[.agg #[.bool c, .int .u64 (hi (Q) : Nat), .int .u64 (lo (Q) : Nat)], .int .u64 (R : Nat)] := hL.1; clear hL; go_simp; exact ⟨dstY (by rfl), hS, trivial⟩
      · as_aux_lemma => intro vals a W hS hL; have e22 : a.tmps.getD 22 undef = .tuple #[.agg #[.bool c, .int .u64 (hi (Q) : Nat), .int .u64 (lo (Q) : Nat)], .int .u64 (R : Nat)] := hL.1; clear hL; go_simp; exact ⟨dstY (by rfl), hS, trivial⟩
      · as_aux_lemma => intro vals a W hS hL; have e22 : a.tmps.getD 22 undef = .tuple #[.agg #[.bool c, .int .u64 (hi (Q) : Nat), .int .u64 (lo (Q) : Nat)], .int .u64 (R : Nat)] := hL.1; clear hL; go_simp; exact ⟨dstY (by rfl), hS, trivial⟩
      · as_aux_lemma =>
          intro a W vals hv hS hL hp; clear hL
          match vals, hv, hS with
          | [], _, hS =>
            have hB : SB w 3 ([((w.heap.size + 1 + 1), 30, #[.int .i64 0, .int .i64 0]), ((w.heap.size + 1), 30, #[.int .i64 n, .int .i64 (t : Nat)]), (w.heap.size, 30, #[.int .i64 m, .int .i64 (s : Nat)])] : List (Nat × TypeId × Array Value)) W := hS; have hF := hB.alloc 119 #[.bool false, .int .u64 0, .int .u64 0]; have hz := hB.size; go_simp; exact ⟨⟨_, rfl, hz, hF⟩, trivial, trivial⟩
      · as_aux_lemma =>
          intro a W vals hv hS hL hp; have e36 : a.tmps.getD 36 undef = .agg #[.bool c, .int .u64 (hi (Q) : Nat), .int .u64 (lo (Q) : Nat)] := hL.1; clear hL
          match vals, hv, hS with
          | [v], _, hS =>
            obtain ⟨g, rfl, hg, hB⟩ := hS; have e7 := hp.1 (by simp); simp only [List.getElem?_cons_zero, Option.some.injEq] at e7; have kz := hB.bk _ (List.mem_cons_self ..); have hlt : ∀ x ∈ ([((w.heap.size + 1 + 1), 30, #[.int .i64 0, .int .i64 0]), ((w.heap.size + 1), 30, #[.int .i64 n, .int .i64 (t : Nat)]), (w.heap.size, 30, #[.int .i64 m, .int .i64 (s : Nat)])] : List (Nat × TypeId × Array Value)), x.1 ≠ g := by simp <;> omega
            have z0 := kz.frozen 0; have q0 := kz.cell 0; have z1 := kz.frozen 1; have q1 := kz.cell 1; have z2 := kz.frozen 2; have q2 := kz.cell 2; have hF := hB.set3 (by omega) hlt (.bool c : Value) (.int .u64 (hi (Q) : Nat) : Value) (.int .u64 (lo (Q) : Nat) : Value); rw [Array.getD_eq_getD_getElem?] at e36; rw [Array.getD_eq_getD_getElem?] at e7; have e7' := e7.symm; clear e7; clear hS kz hB; go_simp; exact ⟨⟨g, rfl, hg, hF⟩, trivial, trivial⟩
      · as_aux_lemma => intro vals a W hS hL; have e37 : a.tmps.getD 37 undef = .int .u64 (R : Nat) := hL.1; clear hL; go_simp; exact ⟨dstY (by rfl), hS, trivial⟩
    · intro a W' vals hd hsz hT hF hv hP hS
      obtain ⟨v0, v1, rfl⟩ : ∃ v0 v1, vals = [v0, v1] := by
        match vals, hv with
        | [x, y], _ => exact ⟨x, y, rfl⟩
      obtain ⟨g, hg0, hg, hB⟩ : ∃ g : Nat, v0 = .pointer (some ⟨g, 0, none⟩) ∧ w.heap.size + 3 ≤ g ∧ SB w 3 ([(g, 119, #[.bool c, .int .u64 (hi (Q) : Nat), .int .u64 (lo (Q) : Nat)]), ((w.heap.size + 1 + 1), 30, #[.int .i64 0, .int .i64 0]), ((w.heap.size + 1), 30, #[.int .i64 n, .int .i64 (t : Nat)]), (w.heap.size, 30, #[.int .i64 m, .int .i64 (s : Nat)])] : List (Nat × TypeId × Array Value)) W' := hS; subst hg0
      have e7 : a.tmps.getD 7 undef = .pointer (some ⟨g, 0, none⟩) := by
        have := hP 0 16 _ 7 rfl (by simp) rfl rfl
        simpa using this.symm
      have e2 : a.tmps.getD 2 undef = .pointer (some ⟨w.heap.size, 0, none⟩) := hT 2 (by simp); have e3 : a.tmps.getD 3 undef = .pointer (some ⟨(w.heap.size + 1), 0, none⟩) := hT 3 (by simp); have e4 : a.tmps.getD 4 undef = .pointer (some ⟨(w.heap.size + 1 + 1), 0, none⟩) := hT 4 (by simp); have e6 : a.tmps.getD 6 undef = .int .u64 (N : Nat) := hT 6 (by simp); have e8 : a.tmps.getD 8 undef = .int .u64 (R : Nat) := hT 8 (by simp); clear hT hF hP; rw [act_lit 57 a hd hsz]; simp only [List.range, List.range.loop, List.map, e2, e3, e4, e6, e8, e7]; clear e2 e3 e4 e6 e8 e7; have k7 := hB.bk _ (List.mem_cons_self ..); have c70 := k7.cell 0; have z70 := k7.frozen 0; have c71 := k7.cell 1; have z71 := k7.frozen 1; have c72 := k7.cell 2; have z72 := k7.frozen 2; clear k7; have k8 := hB.bk _ (.tail _ (.tail _ (.head _))); have c80 := k8.cell 0; have c81 := k8.cell 1; clear k8; have k9 := hB.bk _ (.tail _ (.tail _ (.tail _ (.head _)))); have c90 := k9.cell 0; have c91 := k9.cell 1; clear k9; have hco := HCO.out; have hrn := HRN.out.1; have hNb := HRN.out.2; have HBB := Lib.hid hB; have hcd := HCD.out; obtain ⟨hc, hd⟩ := hcd; have hne : ∀ x ∈ ([((w.heap.size + 1 + 1), 30, #[.int .i64 0, .int .i64 0]), ((w.heap.size + 1), 30, #[.int .i64 n, .int .i64 (t : Nat)]), (w.heap.size, 30, #[.int .i64 m, .int .i64 (s : Nat)])] : List (Nat × TypeId × Array Value)), x.1 ≠ g := by simp <;> omega
      have hF : SB w 3 ((g, 119, #[.bool (c != d), .int .u64 (hi Q : Nat), .int .u64 (lo Q : Nat)]) :: ([((w.heap.size + 1 + 1), 30, #[.int .i64 0, .int .i64 0]), ((w.heap.size + 1), 30, #[.int .i64 n, .int .i64 (t : Nat)]), (w.heap.size, 30, #[.int .i64 m, .int .i64 (s : Nat)])] : List (Nat × TypeId × Array Value))) (W'.setCell ⟨g, 0, none⟩ (.bool (c != d))) := by
        have := HBB.out.set (by omega) hne 0 (.bool (c != d))
        simpa using this
      have HF := Lib.hid hF; have HG2 := Lib.hid hg; clear hB hF hne hg HBB
      go_wp2_with fail
      refine (HTL.out _).mono ?_; rintro e w4 ⟨rfl, hb⟩; rw [dv_parts]; have HF2 := HF.out.call hb; clear hb HF c70 z70 c71 z71 c72 z72 c80 c81 c90 c91 hco hrn hNb; have k4 := HF2.bk _ (.tail _ (.head _)); have hbel := HF2.bel; have c40 := k4.cell 0; have c41 := k4.cell 1; have z40 := k4.frozen 0; have z41 := k4.frozen 1; clear k4 HF2; go_wp2; refine bodyPost_ret (v := dv (tlb (c != d) Q 9)) ?_ rfl ⟨by rw [HV2.out], (hbel.setCell (by simp <;> omega) _).setCell (by simp <;> omega) _⟩; rw [dv_parts]; simp [results, Tryz.results35, go_sem, c40, c41]
end Go.Proofs.YtngkolcpbgibcaaGreatDoor
namespace Go.Proofs.YtngkolcpbgibcaaGreatDoor
open Go.RowKit
theorem tdiv_floor {m p : Int} (hp : 0 < p) (hm : m < 0) : (m.tmod p < 0 → m.tdiv p - 1 = m / p) ∧ (¬ m.tmod p < 0 → m.tdiv p = m / p) := by
  have h1 := Int.mul_tdiv_add_tmod m p
  have h2 : m.tmod p ≤ 0 := by
    have h := Int.tmod_nonneg (a := -m) p (by omega); rw [Int.neg_tmod] at h; omega
  have h3 : -p < m.tmod p := by
    have h := Int.tmod_lt_of_pos (-m) hp; rw [Int.neg_tmod] at h; omega
  constructor
  · intro h; refine (((Int.ediv_emod_unique hp (r := m.tmod p + p)).2 ⟨?_, by omega, by omega⟩).1).symm; rw [Int.mul_sub]; omega
  · intro h; have h0 : m.tmod p = 0 := by omega
    refine (((Int.ediv_emod_unique hp (r := 0)).2 ⟨?_, by omega, by omega⟩).1).symm; omega
set_option maxRecDepth 100000 in
set_option maxHeartbeats 2000000 in
theorem floor_any {w : World} {m : Int} {s : Nat} (h : Gd m s) :
    Calls Tryz.prog 176 #[.agg #[.int .i64 m, .int .i64 (s : Nat)]] w fun e w' => e = .returned (dv (floorD m s)) ∧ Below w.heap.size w w' := by
  have HK := Lib.hid (fun W : World => check_any (w := W) (m := m) (s := s)); have HC := Lib.hid h.ck; have HP := Lib.hid (fun W : World => power_any (w := W) (k := s) (by have := h.s9; omega)); obtain ⟨hf1, hf2⟩ := floor_bd h; have hlo := h.lo; have hhi := h.hi; have hp1 : 0 < 10 ^ s := pow10_pos s; have hp2 : 10 ^ s ≤ 10 ^ 9 := pow10_le h.s9; have HV := Lib.hid (show floorD m s = ⟨m / ((10 ^ s : Nat) : Int), 0, 0⟩ by unfold floorD; simp); rw [show (10 : Int) ^ s = ((10 ^ s : Nat) : Int) by simp] at hf1 hf2; clear h; generalize 10 ^ s = P at *; have H0 : Hid (SB w 2 [(w.heap.size + 1, 30, #[.int .i64 0, .int .i64 0]), (w.heap.size, 30, #[.int .i64 m, .int .i64 (s : Nat)])] ((w.alloc (.cells #[.int .i64 m, .int .i64 (s : Nat)] 30)).alloc (.cells #[.int .i64 0, .int .i64 0] 30))) := Lib.hid ((sb1 w 30 _).push (by simp) 30 _)
  by_cases hm : 0 ≤ m
  · have hp1' : 1 ≤ (P : Int) := by omega
    have hp2' : (P : Int) ≤ 1000000000 := by omega
    have hq : 0 ≤ m / (P : Int) := Int.ediv_nonneg hm (by omega); have hr := Int.emod_nonneg m (show (P : Int) ≠ 0 by omega); have hpz : ((P : Int) == 0) = false := by simp; omega
    clear hp1 hp2 hf1 hlo; go_enter Tryz.func176, Tryz.ntmps176
    go_wp2_with fail
    refine (HK.out _).mono ?_; rintro e w1 ⟨rfl, hb⟩; rw [HC.out]; have HB := Lib.hid (H0.out.call hb); clear H0 hb; have k1 := HB.out.bk _ (.tail _ (.head _)); have c10 := k1.cell 0; have c11 := k1.cell 1; clear k1
    go_wp2_with fail
    refine (HP.out _).mono ?_; rintro e w2 ⟨rfl, rfl⟩
    go_wp2_with fail
    refine int_any.mono ?_; rintro e w3 ⟨rfl, hb⟩; have hB := HB.out.call hb; clear HB hb c10 c11; have k2 := hB.bk _ (.head _); have hbel := hB.bel; have c20 := k2.cell 0; have c21 := k2.cell 1; have z20 := k2.frozen 0; have z21 := k2.frozen 1; clear k2 hB; go_wp2; refine bodyPost_ret (v := .tuple #[.agg #[.int .i64 (m / (P : Int)), .int .i64 0], .int .i64 0]) ?_ rfl ⟨by rw [HV.out]; rfl, (hbel.setCell (by simp <;> omega) _).setCell (by simp <;> omega) _⟩; simp [results, Tryz.results176, go_sem, c20, c21]
  · obtain ⟨h1, h2⟩ := tdiv_floor (p := (P : Int)) (by omega) (show m < 0 by omega); obtain ⟨T, hT⟩ : ∃ T, m.tdiv (P : Int) = T := ⟨_, rfl⟩
    obtain ⟨R, hR⟩ : ∃ R, m.tmod (P : Int) = R := ⟨_, rfl⟩
    rw [hT, hR] at h1 h2; have hp1' : 1 ≤ (P : Int) := by omega
    have hp2' : (P : Int) ≤ 1000000000 := by omega
    have hpz : ((P : Int) == 0) = false := by simp; omega
    by_cases hneg : R < 0
    · have HQ := Lib.hid (h1 hneg); have hT1 : -9223372036854775807 ≤ T := by have := h1 hneg; omega
      have hT2 : T ≤ 9223372036854775807 := by have := h1 hneg; have := Int.ediv_neg_of_neg_of_pos (show m < 0 by omega) (show 0 < (P : Int) by omega); omega
      have hm' : m < 0 := by omega
      clear h1 h2 hp1 hp2 hf1 hf2 hm; go_enter Tryz.func176, Tryz.ntmps176
      go_wp2_with fail
      refine (HK.out _).mono ?_; rintro e w1 ⟨rfl, hb⟩; rw [HC.out]; have HB := Lib.hid (H0.out.call hb); clear H0 hb; have k1 := HB.out.bk _ (.tail _ (.head _)); have c10 := k1.cell 0; have c11 := k1.cell 1; clear k1
      go_wp2_with fail
      refine (HP.out _).mono ?_; rintro e w2 ⟨rfl, rfl⟩
      go_wp2_with fail
      refine int_any.mono ?_; rintro e w3 ⟨rfl, hb⟩; have hB := HB.out.call hb; clear HB hb c10 c11; have k2 := hB.bk _ (.head _); have hbel := hB.bel; have c20 := k2.cell 0; have c21 := k2.cell 1; have z20 := k2.frozen 0; have z21 := k2.frozen 1; clear k2 hB; go_wp2; refine bodyPost_ret (v := .tuple #[.agg #[.int .i64 (T - 1), .int .i64 0], .int .i64 0]) ?_ rfl ⟨by rw [HV.out]; rw [← HQ.out]; rfl, (hbel.setCell (by simp <;> omega) _).setCell (by simp <;> omega) _⟩; simp [results, Tryz.results176, go_sem, c20, c21]
    · have HQ := Lib.hid (h2 hneg); have hT1 : -9223372036854775808 ≤ T := by have := h2 hneg; omega
      have hT2 : T ≤ 9223372036854775807 := by have := h2 hneg; omega
      have hm' : m < 0 := by omega
      have hneg' : decide (R < 0) = false := decide_eq_false hneg; clear h1 h2 hp1 hp2 hf1 hf2 hm hneg; go_enter Tryz.func176, Tryz.ntmps176
      go_wp2_with fail
      refine (HK.out _).mono ?_; rintro e w1 ⟨rfl, hb⟩; rw [HC.out]; have HB := Lib.hid (H0.out.call hb); clear H0 hb; have k1 := HB.out.bk _ (.tail _ (.head _)); have c10 := k1.cell 0; have c11 := k1.cell 1; clear k1
      go_wp2_with fail
      refine (HP.out _).mono ?_; rintro e w2 ⟨rfl, rfl⟩
      go_wp2_with fail
      refine int_any.mono ?_; rintro e w3 ⟨rfl, hb⟩; have hB := HB.out.call hb; clear HB hb c10 c11; have k2 := hB.bk _ (.head _); have hbel := hB.bel; have c20 := k2.cell 0; have c21 := k2.cell 1; have z20 := k2.frozen 0; have z21 := k2.frozen 1; clear k2 hB; go_wp2; refine bodyPost_ret (v := .tuple #[.agg #[.int .i64 T, .int .i64 0], .int .i64 0]) ?_ rfl ⟨by rw [HV.out]; rw [← HQ.out]; rfl, (hbel.setCell (by simp <;> omega) _).setCell (by simp <;> omega) _⟩; simp [results, Tryz.results176, go_sem, c20, c21]
theorem round_le {m p : Int} {s : Nat} (h : Gd m s) (hp : -18 ≤ p) (h9 : p ≤ 9) (hs : (s : Int) ≤ p) : roundD m s p = ⟨m, s, 0⟩ := by
  unfold roundD; rw [if_neg (by omega), show ((s : Int) - p).toNat = 0 by omega, show (-p).toNat = 0 by omega, show min s p.toNat = s by omega, rndI_zero]; simp only [Int.pow_zero, Int.mul_one]; exact tl_gd h
theorem round_gt {m : Int} {s p : Nat} (hs : p < s) (h9 : p ≤ 9) : roundD m s p = tlb (decide (m < 0)) (rnd m.natAbs (s - p)) p := by
  rw [round_in h9, tlb_eq, show min s p = p by omega]; rfl
theorem round_neg {m : Int} {s j : Nat} (hj : j ≤ 18) (h0 : 0 < j) : roundD m s (-(j : Int)) = tlb (decide (m < 0)) (rnd m.natAbs (s + j) * 10 ^ j) 0 := by
  unfold roundD; rw [if_neg (by omega), show ((s : Int) - -(j : Int)).toNat = s + j by omega, show (- -(j : Int)).toNat = j by omega, show min s (-(j : Int)).toNat = 0 by omega, tlb_eq, sgn_mul]; unfold rndI; simp
theorem rounde_any {w : World} {m p : Int} {s : Nat} (hp : p < -18 ∨ 9 < p) :
    Calls Tryz.prog 203 #[.agg #[.int .i64 m, .int .i64 (s : Nat)], .int .i64 p] w fun e w' => e = .returned (dv (roundD m s p)) ∧ Below w.heap.size w w' := by
  have HV := Lib.hid (show roundD m s p = ⟨0, 0, 1⟩ by unfold roundD; rw [if_pos hp])
  rcases hp with hp | hp
  · go_enter Tryz.func203, Tryz.ntmps203; go_wp2; refine bodyPost_ret (v := .tuple #[.agg #[.int .i64 0, .int .i64 0], .int .i64 1]) (by simp [results, Tryz.results203, go_sem]) rfl ⟨by rw [HV.out]; rfl, bel1 _ _ _⟩
  · go_enter Tryz.func203, Tryz.ntmps203; go_wp2; refine bodyPost_ret (v := .tuple #[.agg #[.int .i64 0, .int .i64 0], .int .i64 1]) (by simp [results, Tryz.results203, go_sem]) rfl ⟨by rw [HV.out]; rfl, bel1 _ _ _⟩
set_option maxRecDepth 100000 in
set_option maxHeartbeats 2000000 in
theorem round_any {w : World} {m p : Int} {s : Nat} (h : Gd m s) :
    Calls Tryz.prog 203 #[.agg #[.int .i64 m, .int .i64 (s : Nat)], .int .i64 p] w fun e w' => e = .returned (dv (roundD m s p)) ∧ Below w.heap.size w w' := by
  by_cases hbad : p < -18 ∨ 9 < p
  · exact rounde_any hbad
  have hlow : -18 ≤ p := by omega
  have hhigh : p ≤ 9 := by omega
  have hs9 := h.s9; have hab := h.abs; have HK := Lib.hid (fun W : World => check_any (w := W) (m := m) (s := s)); have HC := Lib.hid h.ck; have HW := Lib.hid (fun W : World => widen_any (w := W) h.lo h.hi); have H0 : Hid (SB w 2 ([((w.heap.size + 1), 30, #[.int .i64 0, .int .i64 0]), (w.heap.size, 30, #[.int .i64 m, .int .i64 (s : Nat)])] : List (Nat × TypeId × Array Value)) ((w.alloc (.cells #[.int .i64 m, .int .i64 (s : Nat)] 30)).alloc (.cells #[.int .i64 0, .int .i64 0] 30))) := Lib.hid ((sb1 w 30 _).push (by simp) 30 _); clear hbad
  by_cases hsp : (s : Int) ≤ p
  · have HV := Lib.hid (round_le h hlow hhigh hsp); clear h hab HW; go_enter Tryz.func203, Tryz.ntmps203
    go_wp2_with fail
    refine (HK.out _).mono ?_; rintro e w1 ⟨rfl, hb⟩; rw [HC.out]; have hB := H0.out.call hb; clear H0 hb; have k2 := hB.bk _ (.head _); have k1 := hB.bk _ (.tail _ (.head _)); have hbel := hB.bel; have c10 := k1.cell 0; have c11 := k1.cell 1; have c20 := k2.cell 0; have c21 := k2.cell 1; have z20 := k2.frozen 0; have z21 := k2.frozen 1; clear k1 k2 hB; go_wp2; refine bodyPost_ret (v := .tuple #[.agg #[.int .i64 m, .int .i64 (s : Nat)], .int .i64 0]) ?_ rfl ⟨by rw [HV.out]; rfl, (hbel.setCell (by simp <;> omega) _).setCell (by simp <;> omega) _⟩; simp [results, Tryz.results203, go_sem, c20, c21]
  · obtain ⟨k, hk⟩ : ∃ k : Nat, (s : Int) - p = (k : Int) := ⟨((s : Int) - p).toNat, by omega⟩
    have HD := Lib.hid (fun W : World => drop_any (w := W) (b := decide (m < 0)) (n := m.natAbs) (k := k) (by omega) (by omega)); have hrl := rnd_le m.natAbs k; have hps : decide ((s : Int) ≤ p) = false := decide_eq_false hsp; have HSUB := Lib.hid (show IntKind.i64.wrap ((s : Int) - p) = (k : Int) by rw [hk]; exact IntWalk.i64_in _ (by omega))
    by_cases hneg : p < 0
    · obtain ⟨j, hj⟩ : ∃ j : Nat, p = -(j : Int) := ⟨(-p).toNat, by omega⟩
      have hp10 : 10 ^ j ≤ 10 ^ 18 := pow10_le (by omega); have HV := Lib.hid (show roundD m s p = tlb (decide (m < 0)) (rnd m.natAbs k * 10 ^ j) 0 by rw [hj, round_neg (by omega) (by omega), show s + j = k by omega]); have HP := Lib.hid (fun W : World => power_any (w := W) (k := j) (by omega)); have hmul : rnd m.natAbs k * 10 ^ j ≤ 9223372036854775809 * 1000000000000000000 := Nat.mul_le_mul (by omega) (by omega); have HT := Lib.hid (fun W : World => times_any (w := W) (b := decide (m < 0)) (n := rnd m.natAbs k) (k := 10 ^ j) (by omega) (by omega)); have HTL : Hid (∀ W : World, Calls Tryz.prog 87 #[wd (decide (m < 0)) (rnd m.natAbs k * 10 ^ j), .int .i64 0] W fun e w' => e = .returned (dv (tlb (decide (m < 0)) (rnd m.natAbs k * 10 ^ j) 0)) ∧ Below W.heap.size W w') := Lib.hid (fun W => tell_any (w := W) (b := decide (m < 0)) (n := rnd m.natAbs k * 10 ^ j) (s := 0) (by omega) (by omega)); have HJ := Lib.hid (show IntKind.i64.wrap (-p) = (j : Int) by rw [hj, Int.neg_neg]; exact IntWalk.i64_in _ (by omega)); have HJ2 := Lib.hid (show -p = (j : Int) by omega); clear h hab hrl hp10 hmul hsp hk hj; generalize decide (m < 0) = c at *; generalize m.natAbs = M at *; generalize rnd M k * 10 ^ j = P at *; generalize rnd M k = Q at *; generalize 10 ^ j = T at *; go_enter Tryz.func203, Tryz.ntmps203
      go_wp2_with fail
      refine (HK.out _).mono ?_; rintro e w1 ⟨rfl, hb⟩; rw [HC.out]; have HSB := Lib.hid (H0.out.call hb); clear H0 hb; have k1 := HSB.out.bk _ (.tail _ (.head _)); have c11 := k1.cell 1; clear k1; go_wp2; clear c11
      refine wp_region_phases (S := (S2 w 2 ([((w.heap.size + 1), 30, #[.int .i64 0, .int .i64 0]), (w.heap.size, 30, #[.int .i64 m, .int .i64 (s : Nat)])] : List (Nat × TypeId × Array Value)) 119 #[.bool false, .int .u64 0, .int .u64 0] #[.bool c, .int .u64 (hi (Q) : Nat), .int .u64 (lo (Q) : Nat)])) (E := (fun _ _ => True)) [8, 9] [(1, Is (.int .i64 p)), (2, Is (.pointer (some ⟨w.heap.size, 0, none⟩))), (4, Is (.pointer (some ⟨(w.heap.size + 1), 0, none⟩)))] [(26, Is (.pointer (some ⟨w.heap.size, 0, none⟩))), (27, Is (.int .i64 m)), (28, Is (wd c M)), (29, Is (.pointer (some ⟨w.heap.size, 1, none⟩))), (30, Is (.int .i64 (s : Nat))), (31, Is (.int .i64 p)), (32, Is (.int .i64 (k : Int))), (33, Is (.agg #[.bool c, .int .u64 (hi (Q) : Nat), .int .u64 (lo (Q) : Nat)]))]
        [.op [2] none, .op [26] none, .op [27] none, .op [2] none, .op [29] none, .op [1] none, .op [30, 31] none, .op [28, 32] none, .phase 0 [] [], .phase 1 [33] [(0, 6)]] (by as_aux_lemma => kernel_rfl) ?_ ?_ ?_ ?_ ?_ ⟨stable_is _ _, stable_is _ _, stable_is _ _, stable_is _ _, stable_is _ _, stable_is _ _, stable_is _ _, stable_is _ _, stable_is _ _, stable_is _ _, stable_is _ _, trivial⟩ ?_ (HSB.out.drew) ?_ ?_
      · as_aux_lemma => kernel_rfl
      · as_aux_lemma => kernel_rfl
      · as_aux_lemma => kernel_rfl
      · as_aux_lemma => kernel_rfl
      · as_aux_lemma => kernel_rfl
      · exact ⟨rfl, rfl, rfl, trivial⟩
      · refine ⟨?_, ?_, ?_, ?_, ?_, ?_, ?_, ?_, ?_, ?_, trivial⟩
        · as_aux_lemma => intro vals a W hS hL; have e2 : a.tmps.getD 2 undef = .pointer (some ⟨w.heap.size, 0, none⟩) := hL.1; clear hL; go_simp; exact ⟨dstY (by rfl), hS, trivial⟩
        · as_aux_lemma => intro vals a W hS hL; have e26 : a.tmps.getD 26 undef = .pointer (some ⟨w.heap.size, 0, none⟩) := hL.1; clear hL; have kb : Bk W w.heap.size 30 #[.int .i64 m, .int .i64 (s : Nat)] := hS.bk (.tail _ (.head _)); have f0 := kb.cell 0; clear kb; go_simp; exact ⟨dstY (by rfl), hS, trivial⟩
        · as_aux_lemma => intro vals a W hS hL; have e27 : a.tmps.getD 27 undef = .int .i64 m := hL.1; clear hL; go_simp; refine (HW.out W).mono ?_; rintro e W' ⟨rfl, hb⟩; exact ⟨_, rfl, dstY (by rfl), hS.call hb, trivial⟩
        · as_aux_lemma => intro vals a W hS hL; have e2 : a.tmps.getD 2 undef = .pointer (some ⟨w.heap.size, 0, none⟩) := hL.1; clear hL; go_simp; exact ⟨dstY (by rfl), hS, trivial⟩
        · as_aux_lemma => intro vals a W hS hL; have e29 : a.tmps.getD 29 undef = .pointer (some ⟨w.heap.size, 1, none⟩) := hL.1; clear hL; have kb : Bk W w.heap.size 30 #[.int .i64 m, .int .i64 (s : Nat)] := hS.bk (.tail _ (.head _)); have f1 := kb.cell 1; clear kb; go_simp; exact ⟨dstY (by rfl), hS, trivial⟩
        · as_aux_lemma => intro vals a W hS hL; have e1 : a.tmps.getD 1 undef = .int .i64 p := hL.1; clear hL; go_simp; exact ⟨dstY (by rfl), hS, trivial⟩
        · as_aux_lemma => intro vals a W hS hL; have e30 : a.tmps.getD 30 undef = .int .i64 (s : Nat) := hL.1; have e31 : a.tmps.getD 31 undef = .int .i64 p := hL.2.1; clear hL; have hsub := HSUB.out; go_simp; exact ⟨dstY (by rfl), hS, trivial⟩
        · as_aux_lemma => intro vals a W hS hL; have e28 : a.tmps.getD 28 undef = wd c M := hL.1; have e32 : a.tmps.getD 32 undef = .int .i64 (k : Int) := hL.2.1; clear hL; go_simp; refine (HD.out W).mono ?_; rintro e W' ⟨rfl, hb⟩; exact ⟨_, rfl, dstY (by rfl), hS.call hb, trivial⟩
        · as_aux_lemma =>
            intro a W vals hv hS hL hp; clear hL
            match vals, hv, hS with
            | [], _, hS =>
              have hB : SB w 2 ([((w.heap.size + 1), 30, #[.int .i64 0, .int .i64 0]), (w.heap.size, 30, #[.int .i64 m, .int .i64 (s : Nat)])] : List (Nat × TypeId × Array Value)) W := hS; have hF := hB.alloc 119 #[.bool false, .int .u64 0, .int .u64 0]; have hz := hB.size; go_simp; exact ⟨⟨_, rfl, hz, hF⟩, trivial, trivial⟩
        · as_aux_lemma =>
            intro a W vals hv hS hL hp; have e33 : a.tmps.getD 33 undef = .agg #[.bool c, .int .u64 (hi (Q) : Nat), .int .u64 (lo (Q) : Nat)] := hL.1; clear hL
            match vals, hv, hS with
            | [v], _, hS =>
              obtain ⟨g, rfl, hg, hB⟩ := hS; have e6 := hp.1 (by simp); simp only [List.getElem?_cons_zero, Option.some.injEq] at e6; have kz := hB.bk _ (List.mem_cons_self ..); have hlt : ∀ x ∈ ([((w.heap.size + 1), 30, #[.int .i64 0, .int .i64 0]), (w.heap.size, 30, #[.int .i64 m, .int .i64 (s : Nat)])] : List (Nat × TypeId × Array Value)), x.1 ≠ g := by simp <;> omega
              have z0 := kz.frozen 0; have q0 := kz.cell 0; have z1 := kz.frozen 1; have q1 := kz.cell 1; have z2 := kz.frozen 2; have q2 := kz.cell 2; have hF := hB.set3 (by omega) hlt (.bool c : Value) (.int .u64 (hi (Q) : Nat) : Value) (.int .u64 (lo (Q) : Nat) : Value); rw [Array.getD_eq_getD_getElem?] at e33; rw [Array.getD_eq_getD_getElem?] at e6; have e6' := e6.symm; clear e6; clear hS kz hB; go_simp; exact ⟨⟨g, rfl, hg, hF⟩, trivial, trivial⟩
      · intro a W' vals hd hsz hT hF hv hP hS
        obtain ⟨v0, v1, rfl⟩ : ∃ v0 v1, vals = [v0, v1] := by
          match vals, hv with
          | [x, y], _ => exact ⟨x, y, rfl⟩
        obtain ⟨g, hg0, hg, hB⟩ : ∃ g : Nat, v0 = .pointer (some ⟨g, 0, none⟩) ∧ w.heap.size + 2 ≤ g ∧ SB w 2 ([(g, 119, #[.bool c, .int .u64 (hi (Q) : Nat), .int .u64 (lo (Q) : Nat)]), ((w.heap.size + 1), 30, #[.int .i64 0, .int .i64 0]), (w.heap.size, 30, #[.int .i64 m, .int .i64 (s : Nat)])] : List (Nat × TypeId × Array Value)) W' := hS; subst hg0
        have e6 : a.tmps.getD 6 undef = .pointer (some ⟨g, 0, none⟩) := by
          have := hP 0 8 _ 6 rfl (by simp) rfl rfl
          simpa using this.symm
        have e1 : a.tmps.getD 1 undef = .int .i64 p := hT 1 (by simp); have e2 : a.tmps.getD 2 undef = .pointer (some ⟨w.heap.size, 0, none⟩) := hT 2 (by simp); have e4 : a.tmps.getD 4 undef = .pointer (some ⟨(w.heap.size + 1), 0, none⟩) := hT 4 (by simp); clear hT hF hP; rw [act_lit 46 a hd hsz]; simp only [List.range, List.range.loop, List.map, e1, e2, e4, e6]; clear e1 e2 e4 e6; have k7 := hB.bk _ (List.mem_cons_self ..); have c70 := k7.cell 0; have z70 := k7.frozen 0; have c71 := k7.cell 1; have z71 := k7.frozen 1; have c72 := k7.cell 2; have z72 := k7.frozen 2; clear k7; have hj2 := HJ.out; have hne : ∀ x ∈ ([((w.heap.size + 1), 30, #[.int .i64 0, .int .i64 0]), (w.heap.size, 30, #[.int .i64 m, .int .i64 (s : Nat)])] : List (Nat × TypeId × Array Value)), x.1 ≠ g := by simp <;> omega
        have HNE := Lib.hid hne; have HB := Lib.hid hB; clear hB hne; have HG := Lib.hid hg; clear hg
        go_wp2_with fail
        go_region_with (first | (go_at_call 96; (with_reducible refine (HP.out _).mono ?_); rintro e w2 ⟨rfl, rfl⟩) | (go_at_call 95; refine (HT.out _).mono ?_; rintro e w3 ⟨rfl, hb⟩; rw [wd_parts]; have hB1 := HB.out.drew.call hb; have k7 := hB1.bk _ (.head _); have q70 := k7.cell 0; have q71 := k7.cell 1; have q72 := k7.cell 2; have y70 := k7.frozen 0; have y71 := k7.frozen 1; have y72 := k7.frozen 2; clear k7 hb))
        all_goals
          have hF := hB1.set3 (by have := HG.out; omega) HNE.out (.bool c) (.int .u64 (hi P : Nat)) (.int .u64 (lo P : Nat)); have HF := Lib.hid hF; clear HB hB1 y70 y71 y72 hF hj2
          go_wp2_with fail
          refine (HTL.out _).mono ?_; rintro e w4 ⟨rfl, hb⟩; rw [dv_parts]; have HF2 := HF.out.call hb; clear hb HF; have k4 := HF2.bk _ (.tail _ (.head _)); have hbel := HF2.bel; have c40 := k4.cell 0; have c41 := k4.cell 1; have z40 := k4.frozen 0; have z41 := k4.frozen 1; clear k4 HF2; go_wp2; refine bodyPost_ret (v := dv (tlb c P 0)) ?_ rfl ⟨by rw [HV.out], (hbel.setCell (by simp <;> omega) _).setCell (by simp <;> omega) _⟩; rw [dv_parts]; simp [results, Tryz.results203, go_sem, c40, c41]
    · obtain ⟨q, rfl⟩ : ∃ q : Nat, p = (q : Int) := ⟨p.toNat, by omega⟩
      have HV := Lib.hid (show roundD m s q = tlb (decide (m < 0)) (rnd m.natAbs k) q by rw [round_gt (by omega) (by omega), show s - q = k by omega]); have HTL := Lib.hid (fun W : World => tell_any (w := W) (b := decide (m < 0)) (n := rnd m.natAbs k) (s := q) (by omega) (by omega)); have hpsn : decide (s ≤ q) = false := decide_eq_false (by omega); clear h hab hrl hsp hk hneg hlow; generalize decide (m < 0) = c at *; generalize m.natAbs = M at *; generalize rnd M k = Q at *; go_enter Tryz.func203, Tryz.ntmps203
      go_wp2_with fail
      refine (HK.out _).mono ?_; rintro e w1 ⟨rfl, hb⟩; rw [HC.out]; have HSB := Lib.hid (H0.out.call hb); clear H0 hb; have k1 := HSB.out.bk _ (.tail _ (.head _)); have c11 := k1.cell 1; clear k1; go_wp2; clear c11
      refine wp_region_phases (S := (S2 w 2 ([((w.heap.size + 1), 30, #[.int .i64 0, .int .i64 0]), (w.heap.size, 30, #[.int .i64 m, .int .i64 (s : Nat)])] : List (Nat × TypeId × Array Value)) 119 #[.bool false, .int .u64 0, .int .u64 0] #[.bool c, .int .u64 (hi (Q) : Nat), .int .u64 (lo (Q) : Nat)])) (E := (fun _ _ => True)) [8, 9] [(1, Is (.int .i64 (q : Int))), (2, Is (.pointer (some ⟨w.heap.size, 0, none⟩))), (4, Is (.pointer (some ⟨(w.heap.size + 1), 0, none⟩)))] [(26, Is (.pointer (some ⟨w.heap.size, 0, none⟩))), (27, Is (.int .i64 m)), (28, Is (wd c M)), (29, Is (.pointer (some ⟨w.heap.size, 1, none⟩))), (30, Is (.int .i64 (s : Nat))), (31, Is (.int .i64 (q : Int))), (32, Is (.int .i64 (k : Int))), (33, Is (.agg #[.bool c, .int .u64 (hi (Q) : Nat), .int .u64 (lo (Q) : Nat)]))]
        [.op [2] none, .op [26] none, .op [27] none, .op [2] none, .op [29] none, .op [1] none, .op [30, 31] none, .op [28, 32] none, .phase 0 [] [], .phase 1 [33] [(0, 6)]] (by as_aux_lemma => kernel_rfl) ?_ ?_ ?_ ?_ ?_ ⟨stable_is _ _, stable_is _ _, stable_is _ _, stable_is _ _, stable_is _ _, stable_is _ _, stable_is _ _, stable_is _ _, stable_is _ _, stable_is _ _, stable_is _ _, trivial⟩ ?_ (HSB.out.drew) ?_ ?_
      · as_aux_lemma => kernel_rfl
      · as_aux_lemma => kernel_rfl
      · as_aux_lemma => kernel_rfl
      · as_aux_lemma => kernel_rfl
      · as_aux_lemma => kernel_rfl
      · exact ⟨rfl, rfl, rfl, trivial⟩
      · refine ⟨?_, ?_, ?_, ?_, ?_, ?_, ?_, ?_, ?_, ?_, trivial⟩
        · as_aux_lemma => intro vals a W hS hL; have e2 : a.tmps.getD 2 undef = .pointer (some ⟨w.heap.size, 0, none⟩) := hL.1; clear hL; go_simp; exact ⟨dstY (by rfl), hS, trivial⟩
        · as_aux_lemma => intro vals a W hS hL; have e26 : a.tmps.getD 26 undef = .pointer (some ⟨w.heap.size, 0, none⟩) := hL.1; clear hL; have kb : Bk W w.heap.size 30 #[.int .i64 m, .int .i64 (s : Nat)] := hS.bk (.tail _ (.head _)); have f0 := kb.cell 0; clear kb; go_simp; exact ⟨dstY (by rfl), hS, trivial⟩
        · as_aux_lemma => intro vals a W hS hL; have e27 : a.tmps.getD 27 undef = .int .i64 m := hL.1; clear hL; go_simp; refine (HW.out W).mono ?_; rintro e W' ⟨rfl, hb⟩; exact ⟨_, rfl, dstY (by rfl), hS.call hb, trivial⟩
        · as_aux_lemma => intro vals a W hS hL; have e2 : a.tmps.getD 2 undef = .pointer (some ⟨w.heap.size, 0, none⟩) := hL.1; clear hL; go_simp; exact ⟨dstY (by rfl), hS, trivial⟩
        · as_aux_lemma => intro vals a W hS hL; have e29 : a.tmps.getD 29 undef = .pointer (some ⟨w.heap.size, 1, none⟩) := hL.1; clear hL; have kb : Bk W w.heap.size 30 #[.int .i64 m, .int .i64 (s : Nat)] := hS.bk (.tail _ (.head _)); have f1 := kb.cell 1; clear kb; go_simp; exact ⟨dstY (by rfl), hS, trivial⟩
        · as_aux_lemma => intro vals a W hS hL; have e1 : a.tmps.getD 1 undef = .int .i64 (q : Int) := hL.1; clear hL; go_simp; exact ⟨dstY (by rfl), hS, trivial⟩
        · as_aux_lemma => intro vals a W hS hL; have e30 : a.tmps.getD 30 undef = .int .i64 (s : Nat) := hL.1; have e31 : a.tmps.getD 31 undef = .int .i64 (q : Int) := hL.2.1; clear hL; have hsub := HSUB.out; go_simp; exact ⟨dstY (by rfl), hS, trivial⟩
        · as_aux_lemma => intro vals a W hS hL; have e28 : a.tmps.getD 28 undef = wd c M := hL.1; have e32 : a.tmps.getD 32 undef = .int .i64 (k : Int) := hL.2.1; clear hL; go_simp; refine (HD.out W).mono ?_; rintro e W' ⟨rfl, hb⟩; exact ⟨_, rfl, dstY (by rfl), hS.call hb, trivial⟩
        · as_aux_lemma =>
            intro a W vals hv hS hL hp; clear hL
            match vals, hv, hS with
            | [], _, hS =>
              have hB : SB w 2 ([((w.heap.size + 1), 30, #[.int .i64 0, .int .i64 0]), (w.heap.size, 30, #[.int .i64 m, .int .i64 (s : Nat)])] : List (Nat × TypeId × Array Value)) W := hS; have hF := hB.alloc 119 #[.bool false, .int .u64 0, .int .u64 0]; have hz := hB.size; go_simp; exact ⟨⟨_, rfl, hz, hF⟩, trivial, trivial⟩
        · as_aux_lemma =>
            intro a W vals hv hS hL hp; have e33 : a.tmps.getD 33 undef = .agg #[.bool c, .int .u64 (hi (Q) : Nat), .int .u64 (lo (Q) : Nat)] := hL.1; clear hL
            match vals, hv, hS with
            | [v], _, hS =>
              obtain ⟨g, rfl, hg, hB⟩ := hS; have e6 := hp.1 (by simp); simp only [List.getElem?_cons_zero, Option.some.injEq] at e6; have kz := hB.bk _ (List.mem_cons_self ..); have hlt : ∀ x ∈ ([((w.heap.size + 1), 30, #[.int .i64 0, .int .i64 0]), (w.heap.size, 30, #[.int .i64 m, .int .i64 (s : Nat)])] : List (Nat × TypeId × Array Value)), x.1 ≠ g := by simp <;> omega
              have z0 := kz.frozen 0; have q0 := kz.cell 0; have z1 := kz.frozen 1; have q1 := kz.cell 1; have z2 := kz.frozen 2; have q2 := kz.cell 2; have hF := hB.set3 (by omega) hlt (.bool c : Value) (.int .u64 (hi (Q) : Nat) : Value) (.int .u64 (lo (Q) : Nat) : Value); rw [Array.getD_eq_getD_getElem?] at e33; rw [Array.getD_eq_getD_getElem?] at e6; have e6' := e6.symm; clear e6; clear hS kz hB; go_simp; exact ⟨⟨g, rfl, hg, hF⟩, trivial, trivial⟩
      · intro a W' vals hd hsz hT hF hv hP hS
        obtain ⟨v0, v1, rfl⟩ : ∃ v0 v1, vals = [v0, v1] := by
          match vals, hv with
          | [x, y], _ => exact ⟨x, y, rfl⟩
        obtain ⟨g, hg0, hg, hB⟩ : ∃ g : Nat, v0 = .pointer (some ⟨g, 0, none⟩) ∧ w.heap.size + 2 ≤ g ∧ SB w 2 ([(g, 119, #[.bool c, .int .u64 (hi (Q) : Nat), .int .u64 (lo (Q) : Nat)]), ((w.heap.size + 1), 30, #[.int .i64 0, .int .i64 0]), (w.heap.size, 30, #[.int .i64 m, .int .i64 (s : Nat)])] : List (Nat × TypeId × Array Value)) W' := hS; subst hg0
        have e6 : a.tmps.getD 6 undef = .pointer (some ⟨g, 0, none⟩) := by
          have := hP 0 8 _ 6 rfl (by simp) rfl rfl
          simpa using this.symm
        have e1 : a.tmps.getD 1 undef = .int .i64 (q : Int) := hT 1 (by simp); have e2 : a.tmps.getD 2 undef = .pointer (some ⟨w.heap.size, 0, none⟩) := hT 2 (by simp); have e4 : a.tmps.getD 4 undef = .pointer (some ⟨(w.heap.size + 1), 0, none⟩) := hT 4 (by simp); clear hT hF hP; rw [act_lit 46 a hd hsz]; simp only [List.range, List.range.loop, List.map, e1, e2, e4, e6]; clear e1 e2 e4 e6; have k7 := hB.bk _ (List.mem_cons_self ..); have c70 := k7.cell 0; have z70 := k7.frozen 0; have c71 := k7.cell 1; have z71 := k7.frozen 1; have c72 := k7.cell 2; have z72 := k7.frozen 2; clear k7; have HF := Lib.hid hB; clear hB
        go_wp2_with fail
        refine (HTL.out _).mono ?_; rintro e w4 ⟨rfl, hb⟩; rw [dv_parts]; have HF2 := HF.out.call hb; clear hb HF; have k4 := HF2.bk _ (.tail _ (.head _)); have hbel := HF2.bel; have c40 := k4.cell 0; have c41 := k4.cell 1; have z40 := k4.frozen 0; have z41 := k4.frozen 1; clear k4 HF2; go_wp2; refine bodyPost_ret (v := dv (tlb c Q q)) ?_ rfl ⟨by rw [HV.out], (hbel.setCell (by simp <;> omega) _).setCell (by simp <;> omega) _⟩; rw [dv_parts]; simp [results, Tryz.results203, go_sem, c40, c41]
end Go.Proofs.YtngkolcpbgibcaaGreatDoor
