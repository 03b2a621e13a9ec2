/- val's Text, Words, Truth, Number by their contracts, at each form of a value. Condition: strconv.FormatUint keeps its contract. -/
import Derived.Test.YtmbjmgmnicacpaaGreatDoorV1
import Derived.Test.YtmbjmgmnicacpaaGreatDoorTx9
namespace Go.Proofs.YtmbjmgmnicacpaaGreatDoor
open Go.RowKit

set_option maxRecDepth 20000 in
theorem text_blank {w : World} :
    Calls Tryz.prog 16 #[.agg #[.int .i64 0, .int .i64 0, .int .i64 0, .string ⟨#[]⟩, .bool false, .int .i64 0]] w fun x w' => x = .returned (sL []) ∧ Below w.heap.size w w' := by
  go_enter Tryz.func16, Tryz.ntmps16
  go_wp2
  go_ret
  exact ⟨rfl, bel0 _ _⟩
set_option maxRecDepth 20000 in
theorem text_str {w : World} (t : ByteArray) :
    Calls Tryz.prog 16 #[.agg #[.int .i64 2, .int .i64 0, .int .i64 0, .string t, .bool false, .int .i64 0]] w fun x w' => x = .returned (.string t) ∧ Below w.heap.size w w' := by
  go_enter Tryz.func16, Tryz.ntmps16
  go_wp2
  go_ret
  exact ⟨rfl, bel0 _ _⟩
set_option maxRecDepth 20000 in
theorem text_bool {w : World} (b : Bool) :
    Calls Tryz.prog 16 #[.agg #[.int .i64 3, .int .i64 0, .int .i64 0, .string ⟨#[]⟩, .bool b, .int .i64 0]] w fun x w' => x = .returned (sL (trL b)) ∧ Below w.heap.size w w' := by
  have HC : Hid (∀ W : World, Calls Tryz.prog 36 #[.bool b] W fun x w' => x = .returned (sL (trL b)) ∧ w' = W) := Lib.hid (fun W => truthText_any b)
  generalize sL (trL b) = V at *
  have HB := Lib.hid (sb1 w 25 #[.int .i64 3, .int .i64 0, .int .i64 0, .string ⟨#[]⟩, .bool b, .int .i64 0])
  go_enter Tryz.func16, Tryz.ntmps16
  go_wp2_with fail
  refine (HC.out _).mono ?_
  rintro e w1 ⟨rfl, rfl⟩
  have hbel := HB.out.bel
  clear HB HC
  go_wp2
  go_ret
  exact ⟨rfl, hbel⟩
set_option maxRecDepth 20000 in
theorem text_err {w : World} (e : Int) :
    Calls Tryz.prog 16 #[.agg #[.int .i64 4, .int .i64 0, .int .i64 0, .string ⟨#[]⟩, .bool false, .int .i64 e]] w fun x w' => x = .returned (sL (erL e)) ∧ Below w.heap.size w w' := by
  have HC : Hid (∀ W : World, Calls Tryz.prog 27 #[.int .i64 e] W fun x w' => x = .returned (sL (erL e)) ∧ w' = W) := Lib.hid (fun W => faultText_any e)
  generalize sL (erL e) = V at *
  have HB := Lib.hid (sb1 w 25 #[.int .i64 4, .int .i64 0, .int .i64 0, .string ⟨#[]⟩, .bool false, .int .i64 e])
  go_enter Tryz.func16, Tryz.ntmps16
  go_wp2_with fail
  refine (HC.out _).mono ?_
  rintro e w1 ⟨rfl, rfl⟩
  have hbel := HB.out.bel
  clear HB HC
  go_wp2
  go_ret
  exact ⟨rfl, hbel⟩
set_option maxRecDepth 20000 in
theorem text_num {w : World} {m : Int} {s : Nat} (HT : Tens w) (h : Gd m s) :
    Calls Tryz.prog 16 #[.agg #[.int .i64 1, .int .i64 m, .int .i64 (s : Nat), .string ⟨#[]⟩, .bool false, .int .i64 0]] w fun x w' => x = .returned (sL (decTx m s)) ∧ Below w.heap.size w w' := by
  have HC : Hid (∀ W : World, Below w.heap.size w W → Calls Tryz.prog 35 #[.agg #[.int .i64 m, .int .i64 (s : Nat)]] W fun x w' => x = .returned (sL (decTx m s)) ∧ Below W.heap.size W w') := Lib.hid (fun W hb => text_any (HT.below hb) h)
  clear HT
  generalize sL (decTx m s) = V at *
  have HB := Lib.hid (sb1 w 25 #[.int .i64 1, .int .i64 m, .int .i64 (s : Nat), .string ⟨#[]⟩, .bool false, .int .i64 0])
  go_enter Tryz.func16, Tryz.ntmps16
  go_wp2_with fail
  refine (HC.out _ HB.out.bel).mono ?_
  rintro e w1 ⟨rfl, hb⟩
  have hbel := (HB.out.call hb).bel
  clear hb HB HC
  go_wp2
  go_ret
  exact ⟨rfl, hbel⟩
set_option maxRecDepth 20000 in
theorem words_blank {w : World} :
    Calls Tryz.prog 12 #[.agg #[.int .i64 0, .int .i64 0, .int .i64 0, .string ⟨#[]⟩, .bool false, .int .i64 0]] w fun x w' => x = .returned (.tuple #[sL [], .agg #[.int .i64 0, .int .i64 0, .int .i64 0, .string ⟨#[]⟩, .bool false, .int .i64 0], .bool true]) ∧ Below w.heap.size w w' := by
  have HC : Hid (∀ W : World, Calls Tryz.prog 16 #[.agg #[.int .i64 0, .int .i64 0, .int .i64 0, .string ⟨#[]⟩, .bool false, .int .i64 0]] W fun x w' => x = .returned (sL []) ∧ Below W.heap.size W w') := Lib.hid (fun W => text_blank)
  obtain ⟨V, hV⟩ : ∃ V, sL [] = V := ⟨_, rfl⟩
  rw [hV] at HC ⊢
  clear hV
  have HB := Lib.hid ((sb1 w 25 #[.int .i64 0, .int .i64 0, .int .i64 0, .string ⟨#[]⟩, .bool false, .int .i64 0]).push (by simp) 25 #[.int .i64 0, .int .i64 0, .int .i64 0, .string ⟨#[]⟩, .bool false, .int .i64 0])
  go_enter Tryz.func12, Tryz.ntmps12
  go_wp2_with fail
  refine (HC.out _).mono ?_
  rintro e w1 ⟨rfl, hb⟩
  have hB := HB.out.call hb
  have hF := hB.put6 (i := 0) rfl (by omega) (by simp [butBox] <;> omega) (.int .i64 0 : Value) (.int .i64 0 : Value) (.int .i64 0 : Value) (.string ⟨#[]⟩ : Value) (.bool false : Value) (.int .i64 0 : Value)
  have hbel := hF.bel
  have kr := hB.box (i := 0) rfl
  have cr0 := kr.cell 0
  have zr0 := kr.frozen 0
  have cr1 := kr.cell 1
  have zr1 := kr.frozen 1
  have cr2 := kr.cell 2
  have zr2 := kr.frozen 2
  have cr3 := kr.cell 3
  have zr3 := kr.frozen 3
  have cr4 := kr.cell 4
  have zr4 := kr.frozen 4
  have cr5 := kr.cell 5
  have zr5 := kr.frozen 5
  clear kr
  clear hb HB HC hB hF
  go_wp2
  refine bodyPost_ret (v := .tuple #[V, .agg #[.int .i64 0, .int .i64 0, .int .i64 0, .string ⟨#[]⟩, .bool false, .int .i64 0], .bool true]) ?_ rfl ⟨rfl, hbel⟩
  simp [results, Tryz.results12, go_sem, cr0, cr1, cr2, cr3, cr4, cr5]
set_option maxRecDepth 20000 in
theorem words_str {w : World} (t : ByteArray) :
    Calls Tryz.prog 12 #[.agg #[.int .i64 2, .int .i64 0, .int .i64 0, .string t, .bool false, .int .i64 0]] w fun x w' => x = .returned (.tuple #[.string t, .agg #[.int .i64 0, .int .i64 0, .int .i64 0, .string ⟨#[]⟩, .bool false, .int .i64 0], .bool true]) ∧ Below w.heap.size w w' := by
  have HC : Hid (∀ W : World, Calls Tryz.prog 16 #[.agg #[.int .i64 2, .int .i64 0, .int .i64 0, .string t, .bool false, .int .i64 0]] W fun x w' => x = .returned (.string t) ∧ Below W.heap.size W w') := Lib.hid (fun W => text_str t)
  have HB := Lib.hid ((sb1 w 25 #[.int .i64 2, .int .i64 0, .int .i64 0, .string t, .bool false, .int .i64 0]).push (by simp) 25 #[.int .i64 0, .int .i64 0, .int .i64 0, .string ⟨#[]⟩, .bool false, .int .i64 0])
  go_enter Tryz.func12, Tryz.ntmps12
  go_wp2_with fail
  refine (HC.out _).mono ?_
  rintro e w1 ⟨rfl, hb⟩
  have hB := HB.out.call hb
  have hF := hB.put6 (i := 0) rfl (by omega) (by simp [butBox] <;> omega) (.int .i64 0 : Value) (.int .i64 0 : Value) (.int .i64 0 : Value) (.string ⟨#[]⟩ : Value) (.bool false : Value) (.int .i64 0 : Value)
  have hbel := hF.bel
  have kr := hB.box (i := 0) rfl
  have cr0 := kr.cell 0
  have zr0 := kr.frozen 0
  have cr1 := kr.cell 1
  have zr1 := kr.frozen 1
  have cr2 := kr.cell 2
  have zr2 := kr.frozen 2
  have cr3 := kr.cell 3
  have zr3 := kr.frozen 3
  have cr4 := kr.cell 4
  have zr4 := kr.frozen 4
  have cr5 := kr.cell 5
  have zr5 := kr.frozen 5
  clear kr
  clear hb HB HC hB hF
  go_wp2
  refine bodyPost_ret (v := .tuple #[.string t, .agg #[.int .i64 0, .int .i64 0, .int .i64 0, .string ⟨#[]⟩, .bool false, .int .i64 0], .bool true]) ?_ rfl ⟨rfl, hbel⟩
  simp [results, Tryz.results12, go_sem, cr0, cr1, cr2, cr3, cr4, cr5]
set_option maxRecDepth 20000 in
theorem words_bool {w : World} (b : Bool) :
    Calls Tryz.prog 12 #[.agg #[.int .i64 3, .int .i64 0, .int .i64 0, .string ⟨#[]⟩, .bool b, .int .i64 0]] w fun x w' => x = .returned (.tuple #[sL (trL b), .agg #[.int .i64 0, .int .i64 0, .int .i64 0, .string ⟨#[]⟩, .bool false, .int .i64 0], .bool true]) ∧ Below w.heap.size w w' := by
  have HC : Hid (∀ W : World, Calls Tryz.prog 16 #[.agg #[.int .i64 3, .int .i64 0, .int .i64 0, .string ⟨#[]⟩, .bool b, .int .i64 0]] W fun x w' => x = .returned (sL (trL b)) ∧ Below W.heap.size W w') := Lib.hid (fun W => text_bool b)
  obtain ⟨V, hV⟩ : ∃ V, sL (trL b) = V := ⟨_, rfl⟩
  rw [hV] at HC ⊢
  clear hV
  have HB := Lib.hid ((sb1 w 25 #[.int .i64 3, .int .i64 0, .int .i64 0, .string ⟨#[]⟩, .bool b, .int .i64 0]).push (by simp) 25 #[.int .i64 0, .int .i64 0, .int .i64 0, .string ⟨#[]⟩, .bool false, .int .i64 0])
  go_enter Tryz.func12, Tryz.ntmps12
  go_wp2_with fail
  refine (HC.out _).mono ?_
  rintro e w1 ⟨rfl, hb⟩
  have hB := HB.out.call hb
  have hF := hB.put6 (i := 0) rfl (by omega) (by simp [butBox] <;> omega) (.int .i64 0 : Value) (.int .i64 0 : Value) (.int .i64 0 : Value) (.string ⟨#[]⟩ : Value) (.bool false : Value) (.int .i64 0 : Value)
  have hbel := hF.bel
  have kr := hB.box (i := 0) rfl
  have cr0 := kr.cell 0
  have zr0 := kr.frozen 0
  have cr1 := kr.cell 1
  have zr1 := kr.frozen 1
  have cr2 := kr.cell 2
  have zr2 := kr.frozen 2
  have cr3 := kr.cell 3
  have zr3 := kr.frozen 3
  have cr4 := kr.cell 4
  have zr4 := kr.frozen 4
  have cr5 := kr.cell 5
  have zr5 := kr.frozen 5
  clear kr
  clear hb HB HC hB hF
  go_wp2
  refine bodyPost_ret (v := .tuple #[V, .agg #[.int .i64 0, .int .i64 0, .int .i64 0, .string ⟨#[]⟩, .bool false, .int .i64 0], .bool true]) ?_ rfl ⟨rfl, hbel⟩
  simp [results, Tryz.results12, go_sem, cr0, cr1, cr2, cr3, cr4, cr5]
set_option maxRecDepth 20000 in
theorem words_num {w : World} {m : Int} {s : Nat} (HT : Tens w) (h : Gd m s) :
    Calls Tryz.prog 12 #[.agg #[.int .i64 1, .int .i64 m, .int .i64 (s : Nat), .string ⟨#[]⟩, .bool false, .int .i64 0]] w fun x w' => x = .returned (.tuple #[sL (decTx m s), .agg #[.int .i64 0, .int .i64 0, .int .i64 0, .string ⟨#[]⟩, .bool false, .int .i64 0], .bool true]) ∧ Below w.heap.size w w' := by
  have HC : Hid (∀ W : World, Below w.heap.size w W → Calls Tryz.prog 16 #[.agg #[.int .i64 1, .int .i64 m, .int .i64 (s : Nat), .string ⟨#[]⟩, .bool false, .int .i64 0]] W fun x w' => x = .returned (sL (decTx m s)) ∧ Below W.heap.size W w') := Lib.hid (fun W hb => text_num (HT.below hb) h)
  clear HT
  obtain ⟨V, hV⟩ : ∃ V, sL (decTx m s) = V := ⟨_, rfl⟩
  rw [hV] at HC ⊢
  clear hV
  have HB := Lib.hid ((sb1 w 25 #[.int .i64 1, .int .i64 m, .int .i64 (s : Nat), .string ⟨#[]⟩, .bool false, .int .i64 0]).push (by simp) 25 #[.int .i64 0, .int .i64 0, .int .i64 0, .string ⟨#[]⟩, .bool false, .int .i64 0])
  go_enter Tryz.func12, Tryz.ntmps12
  go_wp2_with fail
  refine (HC.out _ HB.out.bel).mono ?_
  rintro e w1 ⟨rfl, hb⟩
  have hB := HB.out.call hb
  have hF := hB.put6 (i := 0) rfl (by omega) (by simp [butBox] <;> omega) (.int .i64 0 : Value) (.int .i64 0 : Value) (.int .i64 0 : Value) (.string ⟨#[]⟩ : Value) (.bool false : Value) (.int .i64 0 : Value)
  have hbel := hF.bel
  have kr := hB.box (i := 0) rfl
  have cr0 := kr.cell 0
  have zr0 := kr.frozen 0
  have cr1 := kr.cell 1
  have zr1 := kr.frozen 1
  have cr2 := kr.cell 2
  have zr2 := kr.frozen 2
  have cr3 := kr.cell 3
  have zr3 := kr.frozen 3
  have cr4 := kr.cell 4
  have zr4 := kr.frozen 4
  have cr5 := kr.cell 5
  have zr5 := kr.frozen 5
  clear kr
  clear hb HB HC hB hF
  go_wp2
  refine bodyPost_ret (v := .tuple #[V, .agg #[.int .i64 0, .int .i64 0, .int .i64 0, .string ⟨#[]⟩, .bool false, .int .i64 0], .bool true]) ?_ rfl ⟨rfl, hbel⟩
  simp [results, Tryz.results12, go_sem, cr0, cr1, cr2, cr3, cr4, cr5]
set_option maxRecDepth 20000 in
theorem words_err {w : World} (e : Int) :
    Calls Tryz.prog 12 #[.agg #[.int .i64 4, .int .i64 0, .int .i64 0, .string ⟨#[]⟩, .bool false, .int .i64 e]] w fun x w' => x = .returned (.tuple #[.string ⟨#[]⟩, .agg #[.int .i64 4, .int .i64 0, .int .i64 0, .string ⟨#[]⟩, .bool false, .int .i64 e], .bool false]) ∧ Below w.heap.size w w' := by
  have HB := Lib.hid ((sb1 w 25 #[.int .i64 4, .int .i64 0, .int .i64 0, .string ⟨#[]⟩, .bool false, .int .i64 e]).push (by simp) 25 #[.int .i64 0, .int .i64 0, .int .i64 0, .string ⟨#[]⟩, .bool false, .int .i64 0])
  go_enter Tryz.func12, Tryz.ntmps12
  go_wp2_with fail
  refine wp_region_phases (S := (fun vals W => SX w 2 ([.put 0 #[.int .i64 4, .int .i64 0, .int .i64 0, .string ⟨#[]⟩, .bool false, .int .i64 e]] : List Stp) vals ([(w.heap.size + 1, 25, #[.int .i64 0, .int .i64 0, .int .i64 0, .string ⟨#[]⟩, .bool false, .int .i64 0]), (w.heap.size, 25, #[.int .i64 4, .int .i64 0, .int .i64 0, .string ⟨#[]⟩, .bool false, .int .i64 e])] : List (Nat × TypeId × Array Value)) W)) (E := (fun _ _ => True)) [2] [(1, Is (.pointer (some ⟨w.heap.size, 0, none⟩))), (3, Is (.pointer (some ⟨w.heap.size + 1, 0, none⟩)))] [(8, Is (.agg #[.int .i64 4, .int .i64 0, .int .i64 0, .string ⟨#[]⟩, .bool false, .int .i64 e])), (2, Is (.string ⟨#[]⟩)), (4, Is (.bool false))]
    [.op [1] none, .op [] none, .phase 0 [3, 8] [], .op [] none] (by as_aux_lemma => kernel_rfl) ?_ ?_ ?_ ?_ ?_ ⟨stable_is _ _, stable_is _ _, stable_is _ _, stable_is _ _, stable_is _ _, trivial⟩ ?_ (HB.out.drew) ?_ ?_
  · as_aux_lemma => kernel_rfl
  · as_aux_lemma => kernel_rfl
  · as_aux_lemma => kernel_rfl
  · as_aux_lemma => kernel_rfl
  · as_aux_lemma => kernel_rfl
  · exact ⟨rfl, rfl, trivial⟩
  · refine ⟨?_, ?_, ?_, ?_, trivial⟩
    · as_aux_lemma =>
        intro vals a W hS hL
        have e1 : a.tmps.getD 1 undef = .pointer (some ⟨w.heap.size, 0, none⟩) := hL.1
        clear hL
        have kb : Bk W (w.heap.size) 25 #[.int .i64 4, .int .i64 0, .int .i64 0, .string ⟨#[]⟩, .bool false, .int .i64 e] := hS.bk 1 rfl rfl
        have f0 := kb.cell 0
        have f1 := kb.cell 1
        have f2 := kb.cell 2
        have f3 := kb.cell 3
        have f4 := kb.cell 4
        have f5 := kb.cell 5
        clear kb
        go_simp
        exact ⟨⟨fun d hd => by injection hd with hd; subst hd; rfl, fun h => by cases h⟩, hS, trivial⟩
    · as_aux_lemma =>
        intro vals a W hS hL
        clear hL
        go_simp
        exact ⟨⟨fun d hd => by injection hd with hd; subst hd; rfl, fun h => by cases h⟩, hS, trivial⟩
    · skip
      intro a W vals hv hS hL hp
      have e3 : a.tmps.getD 3 undef = .pointer (some ⟨w.heap.size + 1, 0, none⟩) := hL.1
      have e8 : a.tmps.getD 8 undef = .agg #[.int .i64 4, .int .i64 0, .int .i64 0, .string ⟨#[]⟩, .bool false, .int .i64 e] := hL.2.1
      clear hL
      match vals, hv, hS with
      | [], _, hS =>
        have hS2 : SX w 2 ([.put 0 #[.int .i64 4, .int .i64 0, .int .i64 0, .string ⟨#[]⟩, .bool false, .int .i64 e]] : List Stp) [] ([(w.heap.size + 1, 25, #[.int .i64 0, .int .i64 0, .int .i64 0, .string ⟨#[]⟩, .bool false, .int .i64 0]), (w.heap.size, 25, #[.int .i64 4, .int .i64 0, .int .i64 0, .string ⟨#[]⟩, .bool false, .int .i64 e])] : List (Nat × TypeId × Array Value)) W := hS
        clear hS
        have hB0 := hS2
        have hB : SB w 2 ([(w.heap.size + 1, 25, #[.int .i64 0, .int .i64 0, .int .i64 0, .string ⟨#[]⟩, .bool false, .int .i64 0]), (w.heap.size, 25, #[.int .i64 4, .int .i64 0, .int .i64 0, .string ⟨#[]⟩, .bool false, .int .i64 e])] : List (Nat × TypeId × Array Value)) W := hB0
        clear hB0
        rw [Array.getD_eq_getD_getElem?] at e8
        have kz := hB.box (i := 0) rfl
        have z0 := kz.frozen 0
        have q0 := kz.cell 0
        have z1 := kz.frozen 1
        have q1 := kz.cell 1
        have z2 := kz.frozen 2
        have q2 := kz.cell 2
        have z3 := kz.frozen 3
        have q3 := kz.cell 3
        have z4 := kz.frozen 4
        have q4 := kz.cell 4
        have z5 := kz.frozen 5
        have q5 := kz.cell 5
        have hge : w.heap.size ≤ (w.heap.size + 1) := by omega
        have hne : ∀ qx ∈ butBox ([(w.heap.size + 1, 25, #[.int .i64 0, .int .i64 0, .int .i64 0, .string ⟨#[]⟩, .bool false, .int .i64 0]), (w.heap.size, 25, #[.int .i64 4, .int .i64 0, .int .i64 0, .string ⟨#[]⟩, .bool false, .int .i64 e])] : List (Nat × TypeId × Array Value)) 0, qx.1 ≠ (w.heap.size + 1) := by simp [butBox] <;> omega
        have hF := hB.put6 (i := 0) rfl hge hne (.int .i64 4 : Value) (.int .i64 0 : Value) (.int .i64 0 : Value) (.string ⟨#[]⟩ : Value) (.bool false : Value) (.int .i64 e : Value)
        clear kz hB hne hge
        go_simp
        exact ⟨hF, trivial, trivial⟩
    · as_aux_lemma =>
        intro vals a W hS hL
        clear hL
        go_simp
        exact ⟨⟨fun d hd => by injection hd with hd; subst hd; rfl, fun h => by cases h⟩, hS, trivial⟩
  · intro a W' vals hd hsz hT hF hv hP hS
    obtain ⟨v0, rfl⟩ : ∃ v0, vals = [v0] := by
      match vals, hv with
      | [v0], _ => exact ⟨v0, rfl⟩
    have hS2 : SX w 2 ([.put 0 #[.int .i64 4, .int .i64 0, .int .i64 0, .string ⟨#[]⟩, .bool false, .int .i64 e]] : List Stp) [v0] ([(w.heap.size + 1, 25, #[.int .i64 0, .int .i64 0, .int .i64 0, .string ⟨#[]⟩, .bool false, .int .i64 0]), (w.heap.size, 25, #[.int .i64 4, .int .i64 0, .int .i64 0, .string ⟨#[]⟩, .bool false, .int .i64 e])] : List (Nat × TypeId × Array Value)) W' := hS
    clear hS
    have hB0 := hS2
    have hB : SB w 2 ([(w.heap.size + 1, 25, #[.int .i64 4, .int .i64 0, .int .i64 0, .string ⟨#[]⟩, .bool false, .int .i64 e]), (w.heap.size, 25, #[.int .i64 4, .int .i64 0, .int .i64 0, .string ⟨#[]⟩, .bool false, .int .i64 e])] : List (Nat × TypeId × Array Value)) W' := hB0
    clear hB0
    have kz0 := hB.box (i := 0) rfl
    have r0_0 := kz0.cell 0
    have r0_1 := kz0.cell 1
    have r0_2 := kz0.cell 2
    have r0_3 := kz0.cell 3
    have r0_4 := kz0.cell 4
    have r0_5 := kz0.cell 5
    clear kz0
    have e2 : a.tmps.getD 2 undef = .string ⟨#[]⟩ := hT 2 (by simp)
    have e3 : a.tmps.getD 3 undef = .pointer (some ⟨w.heap.size + 1, 0, none⟩) := hT 3 (by simp)
    have e4 : a.tmps.getD 4 undef = .bool false := hT 4 (by simp)
    clear hT hF hP
    go_wp2
    refine bodyPost_ret (v := .tuple #[.string ⟨#[]⟩, .agg #[.int .i64 4, .int .i64 0, .int .i64 0, .string ⟨#[]⟩, .bool false, .int .i64 e], .bool false]) ?_ hd ⟨rfl, hB.bel⟩
    rw [Array.getD_eq_getD_getElem?] at e2 e3 e4
    simp [results, Tryz.results12, go_sem, e2, e3, e4, r0_0, r0_1, r0_2, r0_3, r0_4, r0_5]
set_option maxRecDepth 20000 in
theorem truth_blank {w : World} :
    Calls Tryz.prog 14 #[.agg #[.int .i64 0, .int .i64 0, .int .i64 0, .string ⟨#[]⟩, .bool false, .int .i64 0]] w fun x w' => x = .returned (.tuple #[.bool false, .agg #[.int .i64 0, .int .i64 0, .int .i64 0, .string ⟨#[]⟩, .bool false, .int .i64 0], .bool true]) ∧ Below w.heap.size w w' := by
  go_enter Tryz.func14, Tryz.ntmps14
  go_wp2
  exact bodyPost_ret (v := .tuple #[.bool false, .agg #[.int .i64 0, .int .i64 0, .int .i64 0, .string ⟨#[]⟩, .bool false, .int .i64 0], .bool true]) (by simp [results, Tryz.results14, go_sem]) rfl ⟨rfl, bel1 _ _ _⟩
set_option maxRecDepth 20000 in
theorem truth_num0 {w : World} (s : Int) :
    Calls Tryz.prog 14 #[.agg #[.int .i64 1, .int .i64 0, .int .i64 s, .string ⟨#[]⟩, .bool false, .int .i64 0]] w fun x w' => x = .returned (.tuple #[.bool false, .agg #[.int .i64 0, .int .i64 0, .int .i64 0, .string ⟨#[]⟩, .bool false, .int .i64 0], .bool true]) ∧ Below w.heap.size w w' := by
  go_enter Tryz.func14, Tryz.ntmps14
  go_wp2
  exact bodyPost_ret (v := .tuple #[.bool false, .agg #[.int .i64 0, .int .i64 0, .int .i64 0, .string ⟨#[]⟩, .bool false, .int .i64 0], .bool true]) (by simp [results, Tryz.results14, go_sem]) rfl ⟨rfl, bel1 _ _ _⟩
set_option maxRecDepth 20000 in
theorem truth_numn {w : World} (m s : Int) (h : ¬ m = 0) :
    Calls Tryz.prog 14 #[.agg #[.int .i64 1, .int .i64 m, .int .i64 s, .string ⟨#[]⟩, .bool false, .int .i64 0]] w fun x w' => x = .returned (.tuple #[.bool true, .agg #[.int .i64 0, .int .i64 0, .int .i64 0, .string ⟨#[]⟩, .bool false, .int .i64 0], .bool true]) ∧ Below w.heap.size w w' := by
  go_enter Tryz.func14, Tryz.ntmps14
  go_wp2
  exact bodyPost_ret (v := .tuple #[.bool true, .agg #[.int .i64 0, .int .i64 0, .int .i64 0, .string ⟨#[]⟩, .bool false, .int .i64 0], .bool true]) (by simp [results, Tryz.results14, go_sem]; exact h) rfl ⟨rfl, bel1 _ _ _⟩
set_option maxRecDepth 20000 in
theorem truth_yes {w : World} :
    Calls Tryz.prog 14 #[.agg #[.int .i64 2, .int .i64 0, .int .i64 0, .string ⟨#[84, 82, 85, 69]⟩, .bool false, .int .i64 0]] w fun x w' => x = .returned (.tuple #[.bool true, .agg #[.int .i64 0, .int .i64 0, .int .i64 0, .string ⟨#[]⟩, .bool false, .int .i64 0], .bool true]) ∧ Below w.heap.size w w' := by
  go_enter Tryz.func14, Tryz.ntmps14
  go_wp2
  exact bodyPost_ret (v := .tuple #[.bool true, .agg #[.int .i64 0, .int .i64 0, .int .i64 0, .string ⟨#[]⟩, .bool false, .int .i64 0], .bool true]) (by simp [results, Tryz.results14, go_sem]) rfl ⟨rfl, bel1 _ _ _⟩
set_option maxRecDepth 20000 in
theorem truth_no {w : World} :
    Calls Tryz.prog 14 #[.agg #[.int .i64 2, .int .i64 0, .int .i64 0, .string ⟨#[70, 65, 76, 83, 69]⟩, .bool false, .int .i64 0]] w fun x w' => x = .returned (.tuple #[.bool false, .agg #[.int .i64 0, .int .i64 0, .int .i64 0, .string ⟨#[]⟩, .bool false, .int .i64 0], .bool true]) ∧ Below w.heap.size w w' := by
  go_enter Tryz.func14, Tryz.ntmps14
  go_wp2
  exact bodyPost_ret (v := .tuple #[.bool false, .agg #[.int .i64 0, .int .i64 0, .int .i64 0, .string ⟨#[]⟩, .bool false, .int .i64 0], .bool true]) (by simp [results, Tryz.results14, go_sem]) rfl ⟨rfl, bel1 _ _ _⟩
set_option maxRecDepth 20000 in
theorem truth_bool {w : World} (b : Bool) :
    Calls Tryz.prog 14 #[.agg #[.int .i64 3, .int .i64 0, .int .i64 0, .string ⟨#[]⟩, .bool b, .int .i64 0]] w fun x w' => x = .returned (.tuple #[.bool b, .agg #[.int .i64 0, .int .i64 0, .int .i64 0, .string ⟨#[]⟩, .bool false, .int .i64 0], .bool true]) ∧ Below w.heap.size w w' := by
  go_enter Tryz.func14, Tryz.ntmps14
  go_wp2
  exact bodyPost_ret (v := .tuple #[.bool b, .agg #[.int .i64 0, .int .i64 0, .int .i64 0, .string ⟨#[]⟩, .bool false, .int .i64 0], .bool true]) (by simp [results, Tryz.results14, go_sem]) rfl ⟨rfl, bel1 _ _ _⟩
set_option maxRecDepth 20000 in
theorem truth_err {w : World} (e : Int) :
    Calls Tryz.prog 14 #[.agg #[.int .i64 4, .int .i64 0, .int .i64 0, .string ⟨#[]⟩, .bool false, .int .i64 e]] w fun x w' => x = .returned (.tuple #[.bool false, .agg #[.int .i64 4, .int .i64 0, .int .i64 0, .string ⟨#[]⟩, .bool false, .int .i64 e], .bool false]) ∧ Below w.heap.size w w' := by
  have HB := Lib.hid ((sb1 w 25 #[.int .i64 4, .int .i64 0, .int .i64 0, .string ⟨#[]⟩, .bool false, .int .i64 e]).push (by simp) 25 #[.int .i64 0, .int .i64 0, .int .i64 0, .string ⟨#[]⟩, .bool false, .int .i64 0])
  go_enter Tryz.func14, Tryz.ntmps14
  go_wp2_with fail
  refine wp_region_phases (S := (fun vals W => SX w 2 ([.put 0 #[.int .i64 4, .int .i64 0, .int .i64 0, .string ⟨#[]⟩, .bool false, .int .i64 e]] : List Stp) vals ([(w.heap.size + 1, 25, #[.int .i64 0, .int .i64 0, .int .i64 0, .string ⟨#[]⟩, .bool false, .int .i64 0]), (w.heap.size, 25, #[.int .i64 4, .int .i64 0, .int .i64 0, .string ⟨#[]⟩, .bool false, .int .i64 e])] : List (Nat × TypeId × Array Value)) W)) (E := (fun _ _ => True)) [2] [(1, Is (.pointer (some ⟨w.heap.size, 0, none⟩))), (3, Is (.pointer (some ⟨w.heap.size + 1, 0, none⟩)))] [(38, Is (.agg #[.int .i64 4, .int .i64 0, .int .i64 0, .string ⟨#[]⟩, .bool false, .int .i64 e])), (2, Is (.bool false)), (4, Is (.bool false))]
    [.op [1] none, .op [] none, .phase 0 [3, 38] [], .op [] none] (by as_aux_lemma => kernel_rfl) ?_ ?_ ?_ ?_ ?_ ⟨stable_is _ _, stable_is _ _, stable_is _ _, stable_is _ _, stable_is _ _, trivial⟩ ?_ (HB.out.drew) ?_ ?_
  · as_aux_lemma => kernel_rfl
  · as_aux_lemma => kernel_rfl
  · as_aux_lemma => kernel_rfl
  · as_aux_lemma => kernel_rfl
  · as_aux_lemma => kernel_rfl
  · exact ⟨rfl, rfl, trivial⟩
  · refine ⟨?_, ?_, ?_, ?_, trivial⟩
    · as_aux_lemma =>
        intro vals a W hS hL
        have e1 : a.tmps.getD 1 undef = .pointer (some ⟨w.heap.size, 0, none⟩) := hL.1
        clear hL
        have kb : Bk W (w.heap.size) 25 #[.int .i64 4, .int .i64 0, .int .i64 0, .string ⟨#[]⟩, .bool false, .int .i64 e] := hS.bk 1 rfl rfl
        have f0 := kb.cell 0
        have f1 := kb.cell 1
        have f2 := kb.cell 2
        have f3 := kb.cell 3
        have f4 := kb.cell 4
        have f5 := kb.cell 5
        clear kb
        go_simp
        exact ⟨⟨fun d hd => by injection hd with hd; subst hd; rfl, fun h => by cases h⟩, hS, trivial⟩
    · as_aux_lemma =>
        intro vals a W hS hL
        clear hL
        go_simp
        exact ⟨⟨fun d hd => by injection hd with hd; subst hd; rfl, fun h => by cases h⟩, hS, trivial⟩
    · skip
      intro a W vals hv hS hL hp
      have e3 : a.tmps.getD 3 undef = .pointer (some ⟨w.heap.size + 1, 0, none⟩) := hL.1
      have e38 : a.tmps.getD 38 undef = .agg #[.int .i64 4, .int .i64 0, .int .i64 0, .string ⟨#[]⟩, .bool false, .int .i64 e] := hL.2.1
      clear hL
      match vals, hv, hS with
      | [], _, hS =>
        have hS2 : SX w 2 ([.put 0 #[.int .i64 4, .int .i64 0, .int .i64 0, .string ⟨#[]⟩, .bool false, .int .i64 e]] : List Stp) [] ([(w.heap.size + 1, 25, #[.int .i64 0, .int .i64 0, .int .i64 0, .string ⟨#[]⟩, .bool false, .int .i64 0]), (w.heap.size, 25, #[.int .i64 4, .int .i64 0, .int .i64 0, .string ⟨#[]⟩, .bool false, .int .i64 e])] : List (Nat × TypeId × Array Value)) W := hS
        clear hS
        have hB0 := hS2
        have hB : SB w 2 ([(w.heap.size + 1, 25, #[.int .i64 0, .int .i64 0, .int .i64 0, .string ⟨#[]⟩, .bool false, .int .i64 0]), (w.heap.size, 25, #[.int .i64 4, .int .i64 0, .int .i64 0, .string ⟨#[]⟩, .bool false, .int .i64 e])] : List (Nat × TypeId × Array Value)) W := hB0
        clear hB0
        rw [Array.getD_eq_getD_getElem?] at e38
        have kz := hB.box (i := 0) rfl
        have z0 := kz.frozen 0
        have q0 := kz.cell 0
        have z1 := kz.frozen 1
        have q1 := kz.cell 1
        have z2 := kz.frozen 2
        have q2 := kz.cell 2
        have z3 := kz.frozen 3
        have q3 := kz.cell 3
        have z4 := kz.frozen 4
        have q4 := kz.cell 4
        have z5 := kz.frozen 5
        have q5 := kz.cell 5
        have hge : w.heap.size ≤ (w.heap.size + 1) := by omega
        have hne : ∀ qx ∈ butBox ([(w.heap.size + 1, 25, #[.int .i64 0, .int .i64 0, .int .i64 0, .string ⟨#[]⟩, .bool false, .int .i64 0]), (w.heap.size, 25, #[.int .i64 4, .int .i64 0, .int .i64 0, .string ⟨#[]⟩, .bool false, .int .i64 e])] : List (Nat × TypeId × Array Value)) 0, qx.1 ≠ (w.heap.size + 1) := by simp [butBox] <;> omega
        have hF := hB.put6 (i := 0) rfl hge hne (.int .i64 4 : Value) (.int .i64 0 : Value) (.int .i64 0 : Value) (.string ⟨#[]⟩ : Value) (.bool false : Value) (.int .i64 e : Value)
        clear kz hB hne hge
        go_simp
        exact ⟨hF, trivial, trivial⟩
    · as_aux_lemma =>
        intro vals a W hS hL
        clear hL
        go_simp
        exact ⟨⟨fun d hd => by injection hd with hd; subst hd; rfl, fun h => by cases h⟩, hS, trivial⟩
  · intro a W' vals hd hsz hT hF hv hP hS
    obtain ⟨v0, rfl⟩ : ∃ v0, vals = [v0] := by
      match vals, hv with
      | [v0], _ => exact ⟨v0, rfl⟩
    have hS2 : SX w 2 ([.put 0 #[.int .i64 4, .int .i64 0, .int .i64 0, .string ⟨#[]⟩, .bool false, .int .i64 e]] : List Stp) [v0] ([(w.heap.size + 1, 25, #[.int .i64 0, .int .i64 0, .int .i64 0, .string ⟨#[]⟩, .bool false, .int .i64 0]), (w.heap.size, 25, #[.int .i64 4, .int .i64 0, .int .i64 0, .string ⟨#[]⟩, .bool false, .int .i64 e])] : List (Nat × TypeId × Array Value)) W' := hS
    clear hS
    have hB0 := hS2
    have hB : SB w 2 ([(w.heap.size + 1, 25, #[.int .i64 4, .int .i64 0, .int .i64 0, .string ⟨#[]⟩, .bool false, .int .i64 e]), (w.heap.size, 25, #[.int .i64 4, .int .i64 0, .int .i64 0, .string ⟨#[]⟩, .bool false, .int .i64 e])] : List (Nat × TypeId × Array Value)) W' := hB0
    clear hB0
    have kz0 := hB.box (i := 0) rfl
    have r0_0 := kz0.cell 0
    have r0_1 := kz0.cell 1
    have r0_2 := kz0.cell 2
    have r0_3 := kz0.cell 3
    have r0_4 := kz0.cell 4
    have r0_5 := kz0.cell 5
    clear kz0
    have e2 : a.tmps.getD 2 undef = .bool false := hT 2 (by simp)
    have e3 : a.tmps.getD 3 undef = .pointer (some ⟨w.heap.size + 1, 0, none⟩) := hT 3 (by simp)
    have e4 : a.tmps.getD 4 undef = .bool false := hT 4 (by simp)
    clear hT hF hP
    go_wp2
    refine bodyPost_ret (v := .tuple #[.bool false, .agg #[.int .i64 4, .int .i64 0, .int .i64 0, .string ⟨#[]⟩, .bool false, .int .i64 e], .bool false]) ?_ hd ⟨rfl, hB.bel⟩
    rw [Array.getD_eq_getD_getElem?] at e2 e3 e4
    simp [results, Tryz.results14, go_sem, e2, e3, e4, r0_0, r0_1, r0_2, r0_3, r0_4, r0_5]
set_option maxRecDepth 20000 in
theorem truth_none {w : World} (t : ByteArray) (h1 : (t.toList == [84, 82, 85, 69]) = false) (h2 : (t.toList == [70, 65, 76, 83, 69]) = false) :
    Calls Tryz.prog 14 #[.agg #[.int .i64 2, .int .i64 0, .int .i64 0, .string t, .bool false, .int .i64 0]] w fun x w' => x = .returned (.tuple #[.bool false, .agg #[.int .i64 4, .int .i64 0, .int .i64 0, .string ⟨#[]⟩, .bool false, .int .i64 15], .bool false]) ∧ Below w.heap.size w w' := by
  have HX := Lib.hid (fun W : World => fault_any (w := W) 15)
  have HB := Lib.hid ((sb1 w 25 #[.int .i64 2, .int .i64 0, .int .i64 0, .string t, .bool false, .int .i64 0]).push (by simp) 25 #[.int .i64 0, .int .i64 0, .int .i64 0, .string ⟨#[]⟩, .bool false, .int .i64 0])
  go_enter Tryz.func14, Tryz.ntmps14
  go_wp2_with fail
  refine (HX.out _).mono ?_
  rintro e w9 ⟨rfl, hb⟩
  have hB := HB.out.call hb
  have hF := hB.put6 (i := 0) rfl (by omega) (by simp [butBox] <;> omega) (.int .i64 4 : Value) (.int .i64 0 : Value) (.int .i64 0 : Value) (.string ⟨#[]⟩ : Value) (.bool false : Value) (.int .i64 15 : Value)
  have hbel := hF.bel
  have kr := hB.box (i := 0) rfl
  have cr0 := kr.cell 0
  have zr0 := kr.frozen 0
  have cr1 := kr.cell 1
  have zr1 := kr.frozen 1
  have cr2 := kr.cell 2
  have zr2 := kr.frozen 2
  have cr3 := kr.cell 3
  have zr3 := kr.frozen 3
  have cr4 := kr.cell 4
  have zr4 := kr.frozen 4
  have cr5 := kr.cell 5
  have zr5 := kr.frozen 5
  clear kr
  clear hb HB HX hB hF
  go_wp2
  refine bodyPost_ret (v := .tuple #[.bool false, .agg #[.int .i64 4, .int .i64 0, .int .i64 0, .string ⟨#[]⟩, .bool false, .int .i64 15], .bool false]) ?_ rfl ⟨rfl, hbel⟩
  simp [results, Tryz.results14, go_sem, cr0, cr1, cr2, cr3, cr4, cr5]
set_option maxRecDepth 20000 in
theorem number_blank {w : World} :
    Calls Tryz.prog 9 #[.agg #[.int .i64 0, .int .i64 0, .int .i64 0, .string ⟨#[]⟩, .bool false, .int .i64 0]] w fun x w' => x = .returned (.tuple #[.agg #[.int .i64 0, .int .i64 0], .agg #[.int .i64 0, .int .i64 0, .int .i64 0, .string ⟨#[]⟩, .bool false, .int .i64 0], .bool true]) ∧ Below w.heap.size w w' := by
  go_enter Tryz.func9, Tryz.ntmps9
  go_wp2
  exact bodyPost_ret (v := .tuple #[.agg #[.int .i64 0, .int .i64 0], .agg #[.int .i64 0, .int .i64 0, .int .i64 0, .string ⟨#[]⟩, .bool false, .int .i64 0], .bool true]) (by simp [results, Tryz.results9, go_sem]) rfl ⟨rfl, bel2 _ _ _ _⟩
set_option maxRecDepth 20000 in
theorem number_num {w : World} (m s : Int) :
    Calls Tryz.prog 9 #[.agg #[.int .i64 1, .int .i64 m, .int .i64 s, .string ⟨#[]⟩, .bool false, .int .i64 0]] w fun x w' => x = .returned (.tuple #[.agg #[.int .i64 m, .int .i64 s], .agg #[.int .i64 0, .int .i64 0, .int .i64 0, .string ⟨#[]⟩, .bool false, .int .i64 0], .bool true]) ∧ Below w.heap.size w w' := by
  go_enter Tryz.func9, Tryz.ntmps9
  go_wp2
  exact bodyPost_ret (v := .tuple #[.agg #[.int .i64 m, .int .i64 s], .agg #[.int .i64 0, .int .i64 0, .int .i64 0, .string ⟨#[]⟩, .bool false, .int .i64 0], .bool true]) (by simp [results, Tryz.results9, go_sem]) rfl ⟨rfl, bel2 _ _ _ _⟩
set_option maxRecDepth 20000 in
theorem number_err {w : World} (e : Int) :
    Calls Tryz.prog 9 #[.agg #[.int .i64 4, .int .i64 0, .int .i64 0, .string ⟨#[]⟩, .bool false, .int .i64 e]] w fun x w' => x = .returned (.tuple #[.agg #[.int .i64 0, .int .i64 0], .agg #[.int .i64 4, .int .i64 0, .int .i64 0, .string ⟨#[]⟩, .bool false, .int .i64 e], .bool false]) ∧ Below w.heap.size w w' := by
  have HB := Lib.hid (((sb1 w 25 #[.int .i64 4, .int .i64 0, .int .i64 0, .string ⟨#[]⟩, .bool false, .int .i64 e]).push (by simp) 23 #[.int .i64 0, .int .i64 0]).push (by simp) 25 #[.int .i64 0, .int .i64 0, .int .i64 0, .string ⟨#[]⟩, .bool false, .int .i64 0])
  go_enter Tryz.func9, Tryz.ntmps9
  go_wp2_with fail
  refine wp_region_phases (S := (fun vals W => SX w 3 ([.put 1 #[.int .i64 0, .int .i64 0], .put 0 #[.int .i64 4, .int .i64 0, .int .i64 0, .string ⟨#[]⟩, .bool false, .int .i64 e]] : List Stp) vals ([(w.heap.size + 2, 25, #[.int .i64 0, .int .i64 0, .int .i64 0, .string ⟨#[]⟩, .bool false, .int .i64 0]), (w.heap.size + 1, 23, #[.int .i64 0, .int .i64 0]), (w.heap.size, 25, #[.int .i64 4, .int .i64 0, .int .i64 0, .string ⟨#[]⟩, .bool false, .int .i64 e])] : List (Nat × TypeId × Array Value)) W)) (E := (fun _ _ => True)) [2, 3] [(1, Is (.pointer (some ⟨w.heap.size, 0, none⟩))), (3, Is (.pointer (some ⟨w.heap.size + 2, 0, none⟩))), (2, Is (.pointer (some ⟨w.heap.size + 1, 0, none⟩)))] [(39, Is (.agg #[.int .i64 0, .int .i64 0])), (40, Is (.agg #[.int .i64 4, .int .i64 0, .int .i64 0, .string ⟨#[]⟩, .bool false, .int .i64 e])), (4, Is (.bool false))]
    [.op [] none, .op [1] none, .phase 0 [2, 39] [], .phase 1 [3, 40] [], .op [] none] (by as_aux_lemma => kernel_rfl) ?_ ?_ ?_ ?_ ?_ ⟨stable_is _ _, stable_is _ _, stable_is _ _, stable_is _ _, stable_is _ _, stable_is _ _, trivial⟩ ?_ (HB.out.drew) ?_ ?_
  · as_aux_lemma => kernel_rfl
  · as_aux_lemma => kernel_rfl
  · as_aux_lemma => kernel_rfl
  · as_aux_lemma => kernel_rfl
  · as_aux_lemma => kernel_rfl
  · exact ⟨rfl, rfl, rfl, trivial⟩
  · refine ⟨?_, ?_, ?_, ?_, ?_, trivial⟩
    · as_aux_lemma =>
        intro vals a W hS hL
        clear hL
        go_simp
        exact ⟨⟨fun d hd => by injection hd with hd; subst hd; rfl, fun h => by cases h⟩, hS, trivial⟩
    · as_aux_lemma =>
        intro vals a W hS hL
        have e1 : a.tmps.getD 1 undef = .pointer (some ⟨w.heap.size, 0, none⟩) := hL.1
        clear hL
        have kb : Bk W (w.heap.size) 25 #[.int .i64 4, .int .i64 0, .int .i64 0, .string ⟨#[]⟩, .bool false, .int .i64 e] := hS.bk 2 rfl rfl
        have f0 := kb.cell 0
        have f1 := kb.cell 1
        have f2 := kb.cell 2
        have f3 := kb.cell 3
        have f4 := kb.cell 4
        have f5 := kb.cell 5
        clear kb
        go_simp
        exact ⟨⟨fun d hd => by injection hd with hd; subst hd; rfl, fun h => by cases h⟩, hS, trivial⟩
    · as_aux_lemma =>
        intro a W vals hv hS hL hp
        have e2 : a.tmps.getD 2 undef = .pointer (some ⟨w.heap.size + 1, 0, none⟩) := hL.1
        have e39 : a.tmps.getD 39 undef = .agg #[.int .i64 0, .int .i64 0] := hL.2.1
        clear hL
        match vals, hv, hS with
        | [], _, hS =>
          have hS2 : SX w 3 ([.put 1 #[.int .i64 0, .int .i64 0], .put 0 #[.int .i64 4, .int .i64 0, .int .i64 0, .string ⟨#[]⟩, .bool false, .int .i64 e]] : List Stp) [] ([(w.heap.size + 2, 25, #[.int .i64 0, .int .i64 0, .int .i64 0, .string ⟨#[]⟩, .bool false, .int .i64 0]), (w.heap.size + 1, 23, #[.int .i64 0, .int .i64 0]), (w.heap.size, 25, #[.int .i64 4, .int .i64 0, .int .i64 0, .string ⟨#[]⟩, .bool false, .int .i64 e])] : List (Nat × TypeId × Array Value)) W := hS
          clear hS
          have hB0 := hS2
          have hB : SB w 3 ([(w.heap.size + 2, 25, #[.int .i64 0, .int .i64 0, .int .i64 0, .string ⟨#[]⟩, .bool false, .int .i64 0]), (w.heap.size + 1, 23, #[.int .i64 0, .int .i64 0]), (w.heap.size, 25, #[.int .i64 4, .int .i64 0, .int .i64 0, .string ⟨#[]⟩, .bool false, .int .i64 e])] : List (Nat × TypeId × Array Value)) W := hB0
          clear hB0
          rw [Array.getD_eq_getD_getElem?] at e39
          have kz := hB.box (i := 1) rfl
          have z0 := kz.frozen 0
          have q0 := kz.cell 0
          have z1 := kz.frozen 1
          have q1 := kz.cell 1
          have hge : w.heap.size ≤ (w.heap.size + 1) := by omega
          have hne : ∀ qx ∈ butBox ([(w.heap.size + 2, 25, #[.int .i64 0, .int .i64 0, .int .i64 0, .string ⟨#[]⟩, .bool false, .int .i64 0]), (w.heap.size + 1, 23, #[.int .i64 0, .int .i64 0]), (w.heap.size, 25, #[.int .i64 4, .int .i64 0, .int .i64 0, .string ⟨#[]⟩, .bool false, .int .i64 e])] : List (Nat × TypeId × Array Value)) 1, qx.1 ≠ (w.heap.size + 1) := by simp [butBox] <;> omega
          have hF := hB.put2 (i := 1) rfl hge hne (.int .i64 0 : Value) (.int .i64 0 : Value)
          clear kz hB hne hge
          go_simp
          exact ⟨hF, trivial, trivial⟩
    · skip
      intro a W vals hv hS hL hp
      have e3 : a.tmps.getD 3 undef = .pointer (some ⟨w.heap.size + 2, 0, none⟩) := hL.1
      have e40 : a.tmps.getD 40 undef = .agg #[.int .i64 4, .int .i64 0, .int .i64 0, .string ⟨#[]⟩, .bool false, .int .i64 e] := hL.2.1
      clear hL
      match vals, hv, hS with
      | [v0], _, hS =>
        have hS2 : SX w 3 ([.put 1 #[.int .i64 0, .int .i64 0], .put 0 #[.int .i64 4, .int .i64 0, .int .i64 0, .string ⟨#[]⟩, .bool false, .int .i64 e]] : List Stp) [v0] ([(w.heap.size + 2, 25, #[.int .i64 0, .int .i64 0, .int .i64 0, .string ⟨#[]⟩, .bool false, .int .i64 0]), (w.heap.size + 1, 23, #[.int .i64 0, .int .i64 0]), (w.heap.size, 25, #[.int .i64 4, .int .i64 0, .int .i64 0, .string ⟨#[]⟩, .bool false, .int .i64 e])] : List (Nat × TypeId × Array Value)) W := hS
        clear hS
        have hB0 := hS2
        have hB : SB w 3 ([(w.heap.size + 2, 25, #[.int .i64 0, .int .i64 0, .int .i64 0, .string ⟨#[]⟩, .bool false, .int .i64 0]), (w.heap.size + 1, 23, #[.int .i64 0, .int .i64 0]), (w.heap.size, 25, #[.int .i64 4, .int .i64 0, .int .i64 0, .string ⟨#[]⟩, .bool false, .int .i64 e])] : List (Nat × TypeId × Array Value)) W := hB0
        clear hB0
        rw [Array.getD_eq_getD_getElem?] at e40
        have kz := hB.box (i := 0) rfl
        have z0 := kz.frozen 0
        have q0 := kz.cell 0
        have z1 := kz.frozen 1
        have q1 := kz.cell 1
        have z2 := kz.frozen 2
        have q2 := kz.cell 2
        have z3 := kz.frozen 3
        have q3 := kz.cell 3
        have z4 := kz.frozen 4
        have q4 := kz.cell 4
        have z5 := kz.frozen 5
        have q5 := kz.cell 5
        have hge : w.heap.size ≤ (w.heap.size + 2) := by omega
        have hne : ∀ qx ∈ butBox ([(w.heap.size + 2, 25, #[.int .i64 0, .int .i64 0, .int .i64 0, .string ⟨#[]⟩, .bool false, .int .i64 0]), (w.heap.size + 1, 23, #[.int .i64 0, .int .i64 0]), (w.heap.size, 25, #[.int .i64 4, .int .i64 0, .int .i64 0, .string ⟨#[]⟩, .bool false, .int .i64 e])] : List (Nat × TypeId × Array Value)) 0, qx.1 ≠ (w.heap.size + 2) := by simp [butBox] <;> omega
        have hF := hB.put6 (i := 0) rfl hge hne (.int .i64 4 : Value) (.int .i64 0 : Value) (.int .i64 0 : Value) (.string ⟨#[]⟩ : Value) (.bool false : Value) (.int .i64 e : Value)
        clear kz hB hne hge
        go_simp
        exact ⟨hF, trivial, trivial⟩
    · as_aux_lemma =>
        intro vals a W hS hL
        clear hL
        go_simp
        exact ⟨⟨fun d hd => by injection hd with hd; subst hd; rfl, fun h => by cases h⟩, hS, trivial⟩
  · intro a W' vals hd hsz hT hF hv hP hS
    obtain ⟨v0, v1, rfl⟩ : ∃ v0 v1, vals = [v0, v1] := by
      match vals, hv with
      | [v0, v1], _ => exact ⟨v0, v1, rfl⟩
    have hS2 : SX w 3 ([.put 1 #[.int .i64 0, .int .i64 0], .put 0 #[.int .i64 4, .int .i64 0, .int .i64 0, .string ⟨#[]⟩, .bool false, .int .i64 e]] : List Stp) [v0, v1] ([(w.heap.size + 2, 25, #[.int .i64 0, .int .i64 0, .int .i64 0, .string ⟨#[]⟩, .bool false, .int .i64 0]), (w.heap.size + 1, 23, #[.int .i64 0, .int .i64 0]), (w.heap.size, 25, #[.int .i64 4, .int .i64 0, .int .i64 0, .string ⟨#[]⟩, .bool false, .int .i64 e])] : List (Nat × TypeId × Array Value)) W' := hS
    clear hS
    have hB0 := hS2
    have hB : SB w 3 ([(w.heap.size + 2, 25, #[.int .i64 4, .int .i64 0, .int .i64 0, .string ⟨#[]⟩, .bool false, .int .i64 e]), (w.heap.size + 1, 23, #[.int .i64 0, .int .i64 0]), (w.heap.size, 25, #[.int .i64 4, .int .i64 0, .int .i64 0, .string ⟨#[]⟩, .bool false, .int .i64 e])] : List (Nat × TypeId × Array Value)) W' := hB0
    clear hB0
    have kz0 := hB.box (i := 0) rfl
    have r0_0 := kz0.cell 0
    have r0_1 := kz0.cell 1
    have r0_2 := kz0.cell 2
    have r0_3 := kz0.cell 3
    have r0_4 := kz0.cell 4
    have r0_5 := kz0.cell 5
    clear kz0
    have kz1 := hB.box (i := 1) rfl
    have r1_0 := kz1.cell 0
    have r1_1 := kz1.cell 1
    clear kz1
    have e2 : a.tmps.getD 2 undef = .pointer (some ⟨w.heap.size + 1, 0, none⟩) := hT 2 (by simp)
    have e3 : a.tmps.getD 3 undef = .pointer (some ⟨w.heap.size + 2, 0, none⟩) := hT 3 (by simp)
    have e4 : a.tmps.getD 4 undef = .bool false := hT 4 (by simp)
    clear hT hF hP
    go_wp2
    refine bodyPost_ret (v := .tuple #[.agg #[.int .i64 0, .int .i64 0], .agg #[.int .i64 4, .int .i64 0, .int .i64 0, .string ⟨#[]⟩, .bool false, .int .i64 e], .bool false]) ?_ hd ⟨rfl, hB.bel⟩
    rw [Array.getD_eq_getD_getElem?] at e2 e3 e4
    simp [results, Tryz.results9, go_sem, e2, e3, e4, r0_0, r0_1, r0_2, r0_3, r0_4, r0_5, r1_0, r1_1]
set_option maxRecDepth 20000 in
theorem number_bool {w : World} (b : Bool) :
    Calls Tryz.prog 9 #[.agg #[.int .i64 3, .int .i64 0, .int .i64 0, .string ⟨#[]⟩, .bool b, .int .i64 0]] w fun x w' => x = .returned (.tuple #[.agg #[.int .i64 (rk b), .int .i64 0], .agg #[.int .i64 0, .int .i64 0, .int .i64 0, .string ⟨#[]⟩, .bool false, .int .i64 0], .bool true]) ∧ Below w.heap.size w w' := by
  have H1 := Lib.hid (fun W : World => rank_any (w := W) b)
  have H2 := Lib.hid (fun W : World => int_any (w := W) (n := rk b))
  generalize rk b = r at *
  have HB := Lib.hid (((sb1 w 25 #[.int .i64 3, .int .i64 0, .int .i64 0, .string ⟨#[]⟩, .bool b, .int .i64 0]).push (by simp) 23 #[.int .i64 0, .int .i64 0]).push (by simp) 25 #[.int .i64 0, .int .i64 0, .int .i64 0, .string ⟨#[]⟩, .bool false, .int .i64 0])
  go_enter Tryz.func9, Tryz.ntmps9
  go_wp2_with fail
  refine (H1.out _).mono ?_
  rintro e w1 ⟨rfl, rfl⟩
  go_wp2_with fail
  refine (H2.out _).mono ?_
  rintro e w2 ⟨rfl, hb⟩
  have hB := HB.out.call hb
  have hF1 := hB.put2 (i := 1) rfl (by omega) (by simp [butBox] <;> omega) (.int .i64 r : Value) (.int .i64 0 : Value)
  have hF := hF1.put6 (i := 0) rfl (by omega) (by simp [butBox, setBox] <;> omega) (.int .i64 0 : Value) (.int .i64 0 : Value) (.int .i64 0 : Value) (.string ⟨#[]⟩ : Value) (.bool false : Value) (.int .i64 0 : Value)
  have hbel := hF.bel
  have kr := hB.box (i := 0) rfl
  have cr0 := kr.cell 0
  have zr0 := kr.frozen 0
  have cr1 := kr.cell 1
  have zr1 := kr.frozen 1
  have cr2 := kr.cell 2
  have zr2 := kr.frozen 2
  have cr3 := kr.cell 3
  have zr3 := kr.frozen 3
  have cr4 := kr.cell 4
  have zr4 := kr.frozen 4
  have cr5 := kr.cell 5
  have zr5 := kr.frozen 5
  clear kr
  have kd := hB.box (i := 1) rfl
  have cd0 := kd.cell 0
  have zd0 := kd.frozen 0
  have cd1 := kd.cell 1
  have zd1 := kd.frozen 1
  clear kd
  clear hb HB H1 H2 hB hF hF1
  go_wp2
  refine bodyPost_ret (v := .tuple #[.agg #[.int .i64 r, .int .i64 0], .agg #[.int .i64 0, .int .i64 0, .int .i64 0, .string ⟨#[]⟩, .bool false, .int .i64 0], .bool true]) ?_ rfl ⟨rfl, hbel⟩
  simp [results, Tryz.results9, go_sem, cr0, cr1, cr2, cr3, cr4, cr5, cd0, cd1]
set_option maxRecDepth 20000 in
theorem number_str {w : World} {t : ByteArray} {m s : Int} (HP : ∀ W : World, Calls Tryz.prog 31 #[.string t] W fun x w' => x = .returned (.tuple #[.agg #[.int .i64 m, .int .i64 s], .int .i64 0]) ∧ Below W.heap.size W w') :
    Calls Tryz.prog 9 #[.agg #[.int .i64 2, .int .i64 0, .int .i64 0, .string t, .bool false, .int .i64 0]] w fun x w' => x = .returned (.tuple #[.agg #[.int .i64 m, .int .i64 s], .agg #[.int .i64 0, .int .i64 0, .int .i64 0, .string ⟨#[]⟩, .bool false, .int .i64 0], .bool true]) ∧ Below w.heap.size w w' := by
  have H1 := Lib.hid HP
  clear HP
  have HB := Lib.hid (((sb1 w 25 #[.int .i64 2, .int .i64 0, .int .i64 0, .string t, .bool false, .int .i64 0]).push (by simp) 23 #[.int .i64 0, .int .i64 0]).push (by simp) 25 #[.int .i64 0, .int .i64 0, .int .i64 0, .string ⟨#[]⟩, .bool false, .int .i64 0])
  go_enter Tryz.func9, Tryz.ntmps9
  go_wp2_with fail
  refine (H1.out _).mono ?_
  rintro x w1 ⟨rfl, hb⟩
  have hz := (HB.out.call hb).size
  have hB := (HB.out.call hb).alloc 23 #[.int .i64 m, .int .i64 s]
  have hF1 := hB.put2 (i := 2) rfl (by omega) (by simp [butBox] <;> omega) (.int .i64 m : Value) (.int .i64 s : Value)
  have hF := hF1.put6 (i := 1) rfl (by omega) (by simp [butBox, setBox] <;> omega) (.int .i64 0 : Value) (.int .i64 0 : Value) (.int .i64 0 : Value) (.string ⟨#[]⟩ : Value) (.bool false : Value) (.int .i64 0 : Value)
  have hbel := hF.bel
  have kr := hB.box (i := 1) rfl
  have cr0 := kr.cell 0
  have zr0 := kr.frozen 0
  have cr1 := kr.cell 1
  have zr1 := kr.frozen 1
  have cr2 := kr.cell 2
  have zr2 := kr.frozen 2
  have cr3 := kr.cell 3
  have zr3 := kr.frozen 3
  have cr4 := kr.cell 4
  have zr4 := kr.frozen 4
  have cr5 := kr.cell 5
  have zr5 := kr.frozen 5
  clear kr
  have kd := hB.box (i := 2) rfl
  have cd0 := kd.cell 0
  have zd0 := kd.frozen 0
  have cd1 := kd.cell 1
  have zd1 := kd.frozen 1
  clear kd
  have kn := hB.box (i := 0) rfl
  have cn0 := kn.cell 0
  have zn0 := kn.frozen 0
  have cn1 := kn.cell 1
  have zn1 := kn.frozen 1
  clear kn
  clear hb HB H1 hB hF hF1
  go_wp2
  refine bodyPost_ret (v := .tuple #[.agg #[.int .i64 m, .int .i64 s], .agg #[.int .i64 0, .int .i64 0, .int .i64 0, .string ⟨#[]⟩, .bool false, .int .i64 0], .bool true]) ?_ rfl ⟨rfl, hbel⟩
  simp [results, Tryz.results9, go_sem, cr0, cr1, cr2, cr3, cr4, cr5, cd0, cd1]
set_option maxRecDepth 20000 in
theorem number_none {w : World} {t : ByteArray} {m s e : Int} (he : ¬ e = 0) (HP : ∀ W : World, Calls Tryz.prog 31 #[.string t] W fun x w' => x = .returned (.tuple #[.agg #[.int .i64 m, .int .i64 s], .int .i64 e]) ∧ Below W.heap.size W w') :
    Calls Tryz.prog 9 #[.agg #[.int .i64 2, .int .i64 0, .int .i64 0, .string t, .bool false, .int .i64 0]] w fun x w' => x = .returned (.tuple #[.agg #[.int .i64 0, .int .i64 0], .agg #[.int .i64 4, .int .i64 0, .int .i64 0, .string ⟨#[]⟩, .bool false, .int .i64 15], .bool false]) ∧ Below w.heap.size w w' := by
  have H1 := Lib.hid HP
  clear HP
  have HX := Lib.hid (fun W : World => fault_any (w := W) 15)
  have HB := Lib.hid (((sb1 w 25 #[.int .i64 2, .int .i64 0, .int .i64 0, .string t, .bool false, .int .i64 0]).push (by simp) 23 #[.int .i64 0, .int .i64 0]).push (by simp) 25 #[.int .i64 0, .int .i64 0, .int .i64 0, .string ⟨#[]⟩, .bool false, .int .i64 0])
  go_enter Tryz.func9, Tryz.ntmps9
  go_wp2_with fail
  refine (H1.out _).mono ?_
  rintro x w1 ⟨rfl, hb⟩
  have hz := (HB.out.call hb).size
  have HB2 := Lib.hid ((HB.out.call hb).alloc 23 #[.int .i64 m, .int .i64 s])
  clear hb HB H1
  have HB := HB2
  clear HB2
  go_wp2_with fail
  refine (HX.out _).mono ?_
  rintro e w9 ⟨rfl, hb⟩
  have hB := HB.out.call hb
  have hF1 := hB.put2 (i := 2) rfl (by omega) (by simp [butBox] <;> omega) (.int .i64 0 : Value) (.int .i64 0 : Value)
  have hF := hF1.put6 (i := 1) rfl (by omega) (by simp [butBox, setBox] <;> omega) (.int .i64 4 : Value) (.int .i64 0 : Value) (.int .i64 0 : Value) (.string ⟨#[]⟩ : Value) (.bool false : Value) (.int .i64 15 : Value)
  have hbel := hF.bel
  have kr := hB.box (i := 1) rfl
  have cr0 := kr.cell 0
  have zr0 := kr.frozen 0
  have cr1 := kr.cell 1
  have zr1 := kr.frozen 1
  have cr2 := kr.cell 2
  have zr2 := kr.frozen 2
  have cr3 := kr.cell 3
  have zr3 := kr.frozen 3
  have cr4 := kr.cell 4
  have zr4 := kr.frozen 4
  have cr5 := kr.cell 5
  have zr5 := kr.frozen 5
  clear kr
  have kd := hB.box (i := 2) rfl
  have cd0 := kd.cell 0
  have zd0 := kd.frozen 0
  have cd1 := kd.cell 1
  have zd1 := kd.frozen 1
  clear kd
  clear hb HB HX hB hF hF1
  go_wp2
  refine bodyPost_ret (v := .tuple #[.agg #[.int .i64 0, .int .i64 0], .agg #[.int .i64 4, .int .i64 0, .int .i64 0, .string ⟨#[]⟩, .bool false, .int .i64 15], .bool false]) ?_ rfl ⟨rfl, hbel⟩
  simp [results, Tryz.results9, go_sem, cr0, cr1, cr2, cr3, cr4, cr5, cd0, cd1]
end Go.Proofs.YtmbjmgmnicacpaaGreatDoor
