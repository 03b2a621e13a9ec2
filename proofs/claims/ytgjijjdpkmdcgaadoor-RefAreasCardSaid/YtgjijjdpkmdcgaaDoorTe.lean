/- ref.Text, and the reference's CellText, by their contracts. Condition: strconv.Itoa keeps its contract (its table is laid). -/
import Derived.Test.YtgjijjdpkmdcgaaDoorLu
namespace Go.Proofs.YtgjijjdpkmdcgaaDoor
open Go.RowKit

theorem SX.bel {w W : World} {n : Nat} {vals : List Value} {bs : List (Nat × TypeId × Array Value)} (h : SX w n [] vals bs W) : Below w.heap.size w W := by
  cases vals <;> exact SB.bel h
/-- strconv.Itoa tells what it promises, from world w on. -/
def Tens (w : World) : Prop := ∀ (n : Nat) (W : World), n ≤ 65536 → Below w.heap.size w W →
  Calls Tryd.prog 41 #[.int .i64 n] W fun e w' => e = .returned (sL (Lib.decDigits n)) ∧ Below W.heap.size W w'
theorem Tens.below {w w' : World} (h : Tens w) (hb : Below w.heap.size w w') : Tens w' := fun n W hn hb' => h n W hn (hb.trans (hb'.mono hb.size))
theorem dig_len (n : Nat) : (Lib.decDigits n).length ≤ n + 1 := by
  induction n using Nat.strongRecOn with
  | _ n ih =>
    by_cases h : n < 10
    · rw [Lib.decDigits_one h]; simp
    · rw [Lib.decDigits, dif_neg h, List.length_append]
      have := ih (n / 10) (by omega)
      simp; omega
theorem letters_b {w : World} (c : Nat) (hc : c < 256) :
    Calls Tryd.prog 40 #[.int .i64 c] w fun e w' => e = .returned (sL (colL c)) ∧ Below w.heap.size w w' :=
  (letters_any c hc).mono fun _ _ ⟨h1, h2⟩ => ⟨h1, h2 ▸ Below.refl _ _⟩
theorem gd_nat {r c : Nat} (hr : r < 65536) (hc : c < 256) : gdB r c = true := gdB_iff.2 ⟨by omega, by omega, by omega, by omega⟩

set_option maxRecDepth 20000 in
set_option maxHeartbeats 2000000 in
theorem text_any {w : World} (HV : Tens w) (r c : Nat) (hr : r < 65536) (hc : c < 256) :
    Calls Tryd.prog 29 #[.agg #[.int .i64 (r : Nat), .int .i64 (c : Nat)]] w fun e w' => e = .returned (sL (wordL r c)) ∧ Below w.heap.size w w' := by
  have HB : Hid (SB w 1 ([(w.heap.size, 25, #[.int .i64 (r : Nat), .int .i64 (c : Nat)])] : List (Nat × TypeId × Array Value)) (w.alloc (.cells #[.int .i64 (r : Nat), .int .i64 (c : Nat)] 25))) := Lib.hid (sb1 w 25 #[.int .i64 (r : Nat), .int .i64 (c : Nat)])
  have HG := Lib.hid (fun W : World => good_any (w := W) r c)
  rw [gd_nat hr hc] at HG
  have HI : Hid (∀ W : World, Below w.heap.size w W → Calls Tryd.prog 41 #[.int .i64 ((r + 1 : Nat) : Int)] W fun e w' => e = .returned (sL (Lib.decDigits (r + 1))) ∧ Below W.heap.size W w') := Lib.hid (fun W hb => HV (r + 1) W (by omega) hb)
  have HL := Lib.hid (fun W : World => letters_b (w := W) c hc)
  clear HV
  have hw : IntKind.i64.wrap ((r : Int) + 1) = ((r + 1 : Nat) : Int) := by rw [IntWalk.i64_in _ (by omega)]; omega
  have HSZ := Lib.hid (show ¬ 9223372036854775807 < (colL c).length + (Lib.decDigits (r + 1)).length by
    have h1 := colL_len c
    have h2 := dig_len (r + 1)
    omega)
  unfold wordL
  generalize colL c = X at *
  obtain ⟨Y, hY⟩ : ∃ Y, Lib.decDigits (r + 1) = Y := ⟨_, rfl⟩
  rw [hY] at HI HSZ ⊢
  clear hY
  obtain ⟨r', hr'⟩ : ∃ r', r + 1 = r' := ⟨_, rfl⟩
  rw [hr'] at HI hw
  clear hr'
  unfold sL at *
  go_enter Tryd.func29, Tryd.ntmps29
  go_wp2_with fail
  refine (HG.out _).mono ?_
  rintro e w1 ⟨rfl, hb⟩
  have HB2 := Lib.hid (HB.out.call hb)
  clear hb HB HG
  go_wp2_with fail
  refine wp_region_phases (S := (fun vals W => SX w 1 ([] : List Stp) vals ([(w.heap.size, 25, #[.int .i64 (r : Nat), .int .i64 (c : Nat)])] : List (Nat × TypeId × Array Value)) W)) (E := (fun _ _ => True)) [] [(1, Is (.pointer (some ⟨w.heap.size, 0, none⟩)))] [(6, Is (.pointer (some ⟨w.heap.size, 1, none⟩))), (7, Is (.int .i64 (c : Nat))), (8, Is (.string ⟨(X).toArray⟩)), (9, Is (.pointer (some ⟨w.heap.size, 0, none⟩))), (10, Is (.int .i64 (r : Nat))), (11, Is (.int .i64 (r' : Nat))), (12, Is (.string ⟨(Y).toArray⟩)), (13, Is (.string ⟨(X ++ Y).toArray⟩)), (2, Is (.string ⟨(X ++ Y).toArray⟩))]
    [.op [1] none, .op [6] none, .op [7] none, .op [1] none, .op [9] none, .op [10] none, .op [11] none, .op [8, 12] none, .op [13] none] (by as_aux_lemma => kernel_rfl) ?_ ?_ ?_ ?_ ?_ ⟨stable_is _ _, stable_is _ _, stable_is _ _, stable_is _ _, stable_is _ _, stable_is _ _, stable_is _ _, stable_is _ _, stable_is _ _, stable_is _ _, trivial⟩ ?_ (HB2.out.drew) ?_ ?_
  · as_aux_lemma => kernel_rfl
  · as_aux_lemma => kernel_rfl
  · as_aux_lemma => kernel_rfl
  · as_aux_lemma => kernel_rfl
  · as_aux_lemma => kernel_rfl
  · exact ⟨rfl, trivial⟩
  · refine ⟨?_, ?_, ?_, ?_, ?_, ?_, ?_, ?_, ?_, trivial⟩
    · as_aux_lemma =>
        intro vals a W hS hL
        have e1 : a.tmps.getD 1 undef = .pointer (some ⟨w.heap.size, 0, none⟩) := hL.1
        clear hL
        go_simp
        exact ⟨⟨fun d hd => by injection hd with hd; subst hd; rfl, fun h => by cases h⟩, hS, trivial⟩
    · as_aux_lemma =>
        intro vals a W hS hL
        have e6 : a.tmps.getD 6 undef = .pointer (some ⟨w.heap.size, 1, none⟩) := hL.1
        clear hL
        have kb : Bk W (w.heap.size) 25 #[.int .i64 (r : Nat), .int .i64 (c : Nat)] := hS.bk 0 rfl rfl
        have f1 := kb.cell 1
        clear kb
        go_simp
        exact ⟨⟨fun d hd => by injection hd with hd; subst hd; rfl, fun h => by cases h⟩, hS, trivial⟩
    · as_aux_lemma =>
        intro vals a W hS hL
        have e7 : a.tmps.getD 7 undef = .int .i64 (c : Nat) := hL.1
        clear hL
        go_simp
        refine (HL.out _).mono ?_
        rintro e W' ⟨rfl, hb⟩
        exact ⟨_, rfl, ⟨fun d hd => by injection hd with hd; subst hd; rfl, fun h => by cases h⟩, hS.call hb, trivial⟩
    · as_aux_lemma =>
        intro vals a W hS hL
        have e1 : a.tmps.getD 1 undef = .pointer (some ⟨w.heap.size, 0, none⟩) := hL.1
        clear hL
        go_simp
        exact ⟨⟨fun d hd => by injection hd with hd; subst hd; rfl, fun h => by cases h⟩, hS, trivial⟩
    · as_aux_lemma =>
        intro vals a W hS hL
        have e9 : a.tmps.getD 9 undef = .pointer (some ⟨w.heap.size, 0, none⟩) := hL.1
        clear hL
        have kb : Bk W (w.heap.size) 25 #[.int .i64 (r : Nat), .int .i64 (c : Nat)] := hS.bk 0 rfl rfl
        have f0 := kb.cell 0
        clear kb
        go_simp
        exact ⟨⟨fun d hd => by injection hd with hd; subst hd; rfl, fun h => by cases h⟩, hS, trivial⟩
    · as_aux_lemma =>
        intro vals a W hS hL
        have e10 : a.tmps.getD 10 undef = .int .i64 (r : Nat) := hL.1
        clear hL
        have hww := hw
        go_simp
        exact ⟨⟨fun d hd => by injection hd with hd; subst hd; rfl, fun h => by cases h⟩, hS, trivial⟩
    · as_aux_lemma =>
        intro vals a W hS hL
        have e11 : a.tmps.getD 11 undef = .int .i64 (r' : Nat) := hL.1
        clear hL
        go_simp
        refine (HI.out _ (SX.bel hS)).mono ?_
        rintro e W' ⟨rfl, hb⟩
        exact ⟨_, rfl, ⟨fun d hd => by injection hd with hd; subst hd; rfl, fun h => by cases h⟩, hS.call hb, trivial⟩
    · as_aux_lemma =>
        intro vals a W hS hL
        have e8 : a.tmps.getD 8 undef = .string ⟨(X).toArray⟩ := hL.1
        have e12 : a.tmps.getD 12 undef = .string ⟨(Y).toArray⟩ := hL.2.1
        clear hL
        have hsz := HSZ.out
        rw [Array.getD_eq_getD_getElem?] at e8 e12
        go_simp
        exact ⟨⟨fun d hd => by injection hd with hd; subst hd; exact congrArg Value.string (bytes_app _ _), fun h => by cases h⟩, hS, trivial⟩
    · as_aux_lemma =>
        intro vals a W hS hL
        have e13 : a.tmps.getD 13 undef = .string ⟨(X ++ Y).toArray⟩ := hL.1
        clear hL
        go_simp
        exact ⟨⟨fun d hd => by injection hd with hd; subst hd; rfl, fun h => by cases h⟩, hS, trivial⟩
  · intro a W' vals hd hsz hT hF hv hP hS
    obtain rfl : vals = [] := List.eq_nil_of_length_eq_zero hv
    have hS2 : SX w 1 ([] : List Stp) [] ([(w.heap.size, 25, #[.int .i64 (r : Nat), .int .i64 (c : Nat)])] : List (Nat × TypeId × Array Value)) W' := hS
    clear hS
    have hB0 := hS2
    have hB : SB w 1 ([(w.heap.size, 25, #[.int .i64 (r : Nat), .int .i64 (c : Nat)])] : List (Nat × TypeId × Array Value)) W' := hB0
    clear hB0
    have e2 : a.tmps.getD 2 undef = .string ⟨(X ++ Y).toArray⟩ := hT 2 (by simp)
    clear hT hF hP
    go_wp2
    refine bodyPost_ret (v := .string ⟨(X ++ Y).toArray⟩) ?_ hd ⟨rfl, hB.bel⟩
    rw [Array.getD_eq_getD_getElem?] at e2
    simp [results, Tryd.results29, go_sem, e2]

set_option maxRecDepth 20000 in
set_option maxHeartbeats 2000000 in
theorem bText_any {w : World} (r c : Nat) (hr : r < 65536) (hc : c < 256) :
    Calls Tryd.prog 30 #[.agg #[.int .i64 (r : Nat), .int .i64 (c : Nat)]] w fun e w' => e = .returned (sL (wordL r c)) ∧ Below w.heap.size w w' := by
  have HB : Hid (SB w 1 ([(w.heap.size, 34, #[.int .i64 (r : Nat), .int .i64 (c : Nat)])] : List (Nat × TypeId × Array Value)) (w.alloc (.cells #[.int .i64 (r : Nat), .int .i64 (c : Nat)] 34))) := Lib.hid (sb1 w 34 #[.int .i64 (r : Nat), .int .i64 (c : Nat)])
  have HI := Lib.hid (fun W : World => decimal_any (w := W) (r + 1) (by omega))
  have HL := Lib.hid (fun W : World => bLetters_any (w := W) c hc)
  have hw : IntKind.i64.wrap ((r : Int) + 1) = ((r + 1 : Nat) : Int) := by rw [IntWalk.i64_in _ (by omega)]; omega
  have HSZ := Lib.hid (show ¬ 9223372036854775807 < (colL c).length + (Lib.decDigits (r + 1)).length by
    have h1 := colL_len c
    have h2 := dig_len (r + 1)
    omega)
  unfold wordL
  generalize colL c = X at *
  obtain ⟨Y, hY⟩ : ∃ Y, Lib.decDigits (r + 1) = Y := ⟨_, rfl⟩
  rw [hY] at HI HSZ ⊢
  clear hY
  obtain ⟨r', hr'⟩ : ∃ r', r + 1 = r' := ⟨_, rfl⟩
  rw [hr'] at HI hw
  clear hr'
  unfold sL at *
  go_enter Tryd.func30, Tryd.ntmps30
  have HB2 := HB
  clear HB
  go_wp2_with fail
  refine wp_region_phases (S := (fun vals W => SX w 1 ([] : List Stp) vals ([(w.heap.size, 34, #[.int .i64 (r : Nat), .int .i64 (c : Nat)])] : List (Nat × TypeId × Array Value)) W)) (E := (fun _ _ => True)) [] [(1, Is (.pointer (some ⟨w.heap.size, 0, none⟩)))] [(3, Is (.pointer (some ⟨w.heap.size, 1, none⟩))), (4, Is (.int .i64 (c : Nat))), (5, Is (.string ⟨(X).toArray⟩)), (6, Is (.pointer (some ⟨w.heap.size, 0, none⟩))), (7, Is (.int .i64 (r : Nat))), (8, Is (.int .i64 (r' : Nat))), (9, Is (.string ⟨(Y).toArray⟩)), (10, Is (.string ⟨(X ++ Y).toArray⟩)), (2, Is (.string ⟨(X ++ Y).toArray⟩))]
    [.op [1] none, .op [3] none, .op [4] none, .op [1] none, .op [6] none, .op [7] none, .op [8] none, .op [5, 9] none, .op [10] none] (by as_aux_lemma => kernel_rfl) ?_ ?_ ?_ ?_ ?_ ⟨stable_is _ _, stable_is _ _, stable_is _ _, stable_is _ _, stable_is _ _, stable_is _ _, stable_is _ _, stable_is _ _, stable_is _ _, stable_is _ _, trivial⟩ ?_ (HB2.out.drew) ?_ ?_
  · as_aux_lemma => kernel_rfl
  · as_aux_lemma => kernel_rfl
  · as_aux_lemma => kernel_rfl
  · as_aux_lemma => kernel_rfl
  · as_aux_lemma => kernel_rfl
  · exact ⟨rfl, trivial⟩
  · refine ⟨?_, ?_, ?_, ?_, ?_, ?_, ?_, ?_, ?_, trivial⟩
    · as_aux_lemma =>
        intro vals a W hS hL
        have e1 : a.tmps.getD 1 undef = .pointer (some ⟨w.heap.size, 0, none⟩) := hL.1
        clear hL
        go_simp
        exact ⟨⟨fun d hd => by injection hd with hd; subst hd; rfl, fun h => by cases h⟩, hS, trivial⟩
    · as_aux_lemma =>
        intro vals a W hS hL
        have e3 : a.tmps.getD 3 undef = .pointer (some ⟨w.heap.size, 1, none⟩) := hL.1
        clear hL
        have kb : Bk W (w.heap.size) 34 #[.int .i64 (r : Nat), .int .i64 (c : Nat)] := hS.bk 0 rfl rfl
        have f1 := kb.cell 1
        clear kb
        go_simp
        exact ⟨⟨fun d hd => by injection hd with hd; subst hd; rfl, fun h => by cases h⟩, hS, trivial⟩
    · as_aux_lemma =>
        intro vals a W hS hL
        have e4 : a.tmps.getD 4 undef = .int .i64 (c : Nat) := hL.1
        clear hL
        go_simp
        refine (HL.out _).mono ?_
        rintro e W' ⟨rfl, hb⟩
        exact ⟨_, rfl, ⟨fun d hd => by injection hd with hd; subst hd; rfl, fun h => by cases h⟩, hS.call hb, trivial⟩
    · as_aux_lemma =>
        intro vals a W hS hL
        have e1 : a.tmps.getD 1 undef = .pointer (some ⟨w.heap.size, 0, none⟩) := hL.1
        clear hL
        go_simp
        exact ⟨⟨fun d hd => by injection hd with hd; subst hd; rfl, fun h => by cases h⟩, hS, trivial⟩
    · as_aux_lemma =>
        intro vals a W hS hL
        have e6 : a.tmps.getD 6 undef = .pointer (some ⟨w.heap.size, 0, none⟩) := hL.1
        clear hL
        have kb : Bk W (w.heap.size) 34 #[.int .i64 (r : Nat), .int .i64 (c : Nat)] := hS.bk 0 rfl rfl
        have f0 := kb.cell 0
        clear kb
        go_simp
        exact ⟨⟨fun d hd => by injection hd with hd; subst hd; rfl, fun h => by cases h⟩, hS, trivial⟩
    · as_aux_lemma =>
        intro vals a W hS hL
        have e7 : a.tmps.getD 7 undef = .int .i64 (r : Nat) := hL.1
        clear hL
        have hww := hw
        go_simp
        exact ⟨⟨fun d hd => by injection hd with hd; subst hd; rfl, fun h => by cases h⟩, hS, trivial⟩
    · as_aux_lemma =>
        intro vals a W hS hL
        have e8 : a.tmps.getD 8 undef = .int .i64 (r' : Nat) := hL.1
        clear hL
        go_simp
        refine (HI.out _).mono ?_
        rintro e W' ⟨rfl, hb⟩
        exact ⟨_, rfl, ⟨fun d hd => by injection hd with hd; subst hd; rfl, fun h => by cases h⟩, hS.call hb, trivial⟩
    · as_aux_lemma =>
        intro vals a W hS hL
        have e5 : a.tmps.getD 5 undef = .string ⟨(X).toArray⟩ := hL.1
        have e9 : a.tmps.getD 9 undef = .string ⟨(Y).toArray⟩ := hL.2.1
        clear hL
        have hsz := HSZ.out
        rw [Array.getD_eq_getD_getElem?] at e5 e9
        go_simp
        exact ⟨⟨fun d hd => by injection hd with hd; subst hd; exact congrArg Value.string (bytes_app _ _), fun h => by cases h⟩, hS, trivial⟩
    · as_aux_lemma =>
        intro vals a W hS hL
        have e10 : a.tmps.getD 10 undef = .string ⟨(X ++ Y).toArray⟩ := hL.1
        clear hL
        go_simp
        exact ⟨⟨fun d hd => by injection hd with hd; subst hd; rfl, fun h => by cases h⟩, hS, trivial⟩
  · intro a W' vals hd hsz hT hF hv hP hS
    obtain rfl : vals = [] := List.eq_nil_of_length_eq_zero hv
    have hS2 : SX w 1 ([] : List Stp) [] ([(w.heap.size, 34, #[.int .i64 (r : Nat), .int .i64 (c : Nat)])] : List (Nat × TypeId × Array Value)) W' := hS
    clear hS
    have hB0 := hS2
    have hB : SB w 1 ([(w.heap.size, 34, #[.int .i64 (r : Nat), .int .i64 (c : Nat)])] : List (Nat × TypeId × Array Value)) W' := hB0
    clear hB0
    have e2 : a.tmps.getD 2 undef = .string ⟨(X ++ Y).toArray⟩ := hT 2 (by simp)
    clear hT hF hP
    go_wp2
    refine bodyPost_ret (v := .string ⟨(X ++ Y).toArray⟩) ?_ hd ⟨rfl, hB.bel⟩
    rw [Array.getD_eq_getD_getElem?] at e2
    simp [results, Tryd.results30, go_sem, e2]

end Go.Proofs.YtgjijjdpkmdcgaaDoor
