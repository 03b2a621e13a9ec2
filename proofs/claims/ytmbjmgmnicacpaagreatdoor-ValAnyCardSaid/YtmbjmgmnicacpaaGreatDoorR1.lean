/- The reference's ErrText, Fault, as, ValText, Words, Truth, Number by their contracts. Condition: DecText and ParseDec are told by what they return. -/
import Derived.Test.YtmbjmgmnicacpaaGreatDoorV1
import Derived.Test.YtmbjmgmnicacpaaGreatDoorV5
import Derived.Test.YtmbjmgmnicacpaaGreatDoorDigOps
namespace Go.Proofs.YtmbjmgmnicacpaaGreatDoor
open Go.RowKit

theorem bErrText_any {w : World} (e : Int) : Calls Tryz.prog 30 #[.int .i64 e] w fun x w' => x = .returned (sL (erL e)) ∧ w' = w := by
  obtain ⟨L, hL⟩ : ∃ L, erL e = L := ⟨_, rfl⟩
  rw [hL]
  unfold erL at hL
  by_cases h0 : e = 0
  · subst h0
    subst hL
    go_enter Tryz.func30, Tryz.ntmps30
    go_wp2
    go_ret
    exact ⟨rfl, rfl⟩
  rw [if_neg h0] at hL
  by_cases h7 : e = 7
  · subst h7
    subst hL
    go_enter Tryz.func30, Tryz.ntmps30
    go_wp2
    go_ret
    exact ⟨rfl, rfl⟩
  rw [if_neg h7] at hL
  by_cases h15 : e = 15
  · subst h15
    subst hL
    go_enter Tryz.func30, Tryz.ntmps30
    go_wp2
    go_ret
    exact ⟨rfl, rfl⟩
  rw [if_neg h15] at hL
  by_cases h23 : e = 23
  · subst h23
    subst hL
    go_enter Tryz.func30, Tryz.ntmps30
    go_wp2
    go_ret
    exact ⟨rfl, rfl⟩
  rw [if_neg h23] at hL
  by_cases h29 : e = 29
  · subst h29
    subst hL
    go_enter Tryz.func30, Tryz.ntmps30
    go_wp2
    go_ret
    exact ⟨rfl, rfl⟩
  rw [if_neg h29] at hL
  by_cases h36 : e = 36
  · subst h36
    subst hL
    go_enter Tryz.func30, Tryz.ntmps30
    go_wp2
    go_ret
    exact ⟨rfl, rfl⟩
  rw [if_neg h36] at hL
  by_cases h42 : e = 42
  · subst h42
    subst hL
    go_enter Tryz.func30, Tryz.ntmps30
    go_wp2
    go_ret
    exact ⟨rfl, rfl⟩
  rw [if_neg h42] at hL
  subst hL
  go_enter Tryz.func30, Tryz.ntmps30
  go_wp2
  go_ret
  exact ⟨rfl, rfl⟩
theorem bFault_any {w : World} (e : Int) : Calls Tryz.prog 34 #[.int .i64 e] w fun x w' => x = .returned (.agg #[.int .i64 4, .int .i64 0, .int .i64 0, .string ⟨#[]⟩, .bool false, .int .i64 e]) ∧ Below w.heap.size w w' := by
  go_enter Tryz.func34, Tryz.ntmps34
  go_wp2
  exact bodyPost_ret (v := .agg #[.int .i64 4, .int .i64 0, .int .i64 0, .string ⟨#[]⟩, .bool false, .int .i64 e]) (by simp [results, Tryz.results34, go_sem]) rfl ⟨rfl, bel0 _ _⟩
theorem as_non {w : World} (k : Int) (m s : Int) (t : ByteArray) (b : Bool) (e : Int) (q : Int) (h : ¬ k = 0) : Calls Tryz.prog 43 #[.agg #[.int .i64 k, .int .i64 m, .int .i64 s, .string t, .bool b, .int .i64 e], .int .i64 q] w fun x w' => x = .returned (.agg #[.int .i64 k, .int .i64 m, .int .i64 s, .string t, .bool b, .int .i64 e]) ∧ Below w.heap.size w w' := by
  go_enter Tryz.func43, Tryz.ntmps43
  go_wp2
  exact bodyPost_ret (v := .agg #[.int .i64 k, .int .i64 m, .int .i64 s, .string t, .bool b, .int .i64 e]) (by simp [results, Tryz.results43, go_sem]) rfl ⟨rfl, bel1 _ _ _⟩
theorem as_fill {w : World} (q : Int) (h1 : 1 ≤ q) (h3 : q ≤ 3) : Calls Tryz.prog 43 #[.agg #[.int .i64 0, .int .i64 0, .int .i64 0, .string ⟨#[]⟩, .bool false, .int .i64 0], .int .i64 q] w fun x w' => x = .returned (.agg #[.int .i64 q, .int .i64 0, .int .i64 0, .string ⟨#[]⟩, .bool false, .int .i64 0]) ∧ Below w.heap.size w w' := by
  go_enter Tryz.func43, Tryz.ntmps43
  go_wp2
  exact bodyPost_ret (v := .agg #[.int .i64 q, .int .i64 0, .int .i64 0, .string ⟨#[]⟩, .bool false, .int .i64 0]) (by simp [results, Tryz.results43, go_sem]) rfl ⟨rfl, bel1 _ _ _⟩
theorem as_zero {w : World} : Calls Tryz.prog 43 #[.agg #[.int .i64 0, .int .i64 0, .int .i64 0, .string ⟨#[]⟩, .bool false, .int .i64 0], .int .i64 0] w fun x w' => x = .returned (.agg #[.int .i64 0, .int .i64 0, .int .i64 0, .string ⟨#[]⟩, .bool false, .int .i64 0]) ∧ Below w.heap.size w w' := by
  go_enter Tryz.func43, Tryz.ntmps43
  go_wp2
  exact bodyPost_ret (v := .agg #[.int .i64 0, .int .i64 0, .int .i64 0, .string ⟨#[]⟩, .bool false, .int .i64 0]) (by simp [results, Tryz.results43, go_sem]) rfl ⟨rfl, bel1 _ _ _⟩
theorem as_four {w : World} : Calls Tryz.prog 43 #[.agg #[.int .i64 0, .int .i64 0, .int .i64 0, .string ⟨#[]⟩, .bool false, .int .i64 0], .int .i64 4] w fun x w' => x = .returned (.agg #[.int .i64 0, .int .i64 0, .int .i64 0, .string ⟨#[]⟩, .bool false, .int .i64 0]) ∧ Below w.heap.size w w' := by
  go_enter Tryz.func43, Tryz.ntmps43
  go_wp2
  exact bodyPost_ret (v := .agg #[.int .i64 0, .int .i64 0, .int .i64 0, .string ⟨#[]⟩, .bool false, .int .i64 0]) (by simp [results, Tryz.results43, go_sem]) rfl ⟨rfl, bel1 _ _ _⟩
set_option maxRecDepth 20000 in
theorem bText_blank {w : World} :
    Calls Tryz.prog 17 #[.agg #[.int .i64 0, .int .i64 0, .int .i64 0, .string ⟨#[]⟩, .bool false, .int .i64 0]] w fun x w' => x = .returned (sL []) ∧ Below w.heap.size w w' := by
  go_enter Tryz.func17, Tryz.ntmps17
  go_wp2
  go_ret
  exact ⟨rfl, bel0 _ _⟩
set_option maxRecDepth 20000 in
theorem bText_str {w : World} (t : ByteArray) :
    Calls Tryz.prog 17 #[.agg #[.int .i64 2, .int .i64 0, .int .i64 0, .string t, .bool false, .int .i64 0]] w fun x w' => x = .returned (.string t) ∧ Below w.heap.size w w' := by
  go_enter Tryz.func17, Tryz.ntmps17
  go_wp2
  go_ret
  exact ⟨rfl, bel0 _ _⟩
set_option maxRecDepth 20000 in
theorem bText_true {w : World} :
    Calls Tryz.prog 17 #[.agg #[.int .i64 3, .int .i64 0, .int .i64 0, .string ⟨#[]⟩, .bool true, .int .i64 0]] w fun x w' => x = .returned (sL yesL) ∧ Below w.heap.size w w' := by
  go_enter Tryz.func17, Tryz.ntmps17
  go_wp2
  go_ret
  exact ⟨rfl, bel0 _ _⟩
set_option maxRecDepth 20000 in
theorem bText_false {w : World} :
    Calls Tryz.prog 17 #[.agg #[.int .i64 3, .int .i64 0, .int .i64 0, .string ⟨#[]⟩, .bool false, .int .i64 0]] w fun x w' => x = .returned (sL noL) ∧ Below w.heap.size w w' := by
  go_enter Tryz.func17, Tryz.ntmps17
  go_wp2
  go_ret
  exact ⟨rfl, bel0 _ _⟩
theorem bText_bool {w : World} (b : Bool) :
    Calls Tryz.prog 17 #[.agg #[.int .i64 3, .int .i64 0, .int .i64 0, .string ⟨#[]⟩, .bool b, .int .i64 0]] w fun x w' => x = .returned (sL (trL b)) ∧ Below w.heap.size w w' := by
  cases b
  · exact bText_false
  · exact bText_true
set_option maxRecDepth 20000 in
theorem bText_err {w : World} (e : Int) :
    Calls Tryz.prog 17 #[.agg #[.int .i64 4, .int .i64 0, .int .i64 0, .string ⟨#[]⟩, .bool false, .int .i64 e]] w fun x w' => x = .returned (sL (erL e)) ∧ Below w.heap.size w w' := by
  have HC : Hid (∀ W : World, Calls Tryz.prog 30 #[.int .i64 e] W fun x w' => x = .returned (sL (erL e)) ∧ w' = W) := Lib.hid (fun W => bErrText_any e)
  generalize sL (erL e) = V at *
  have HB := Lib.hid (sb1 w 29 #[.int .i64 4, .int .i64 0, .int .i64 0, .string ⟨#[]⟩, .bool false, .int .i64 e])
  go_enter Tryz.func17, Tryz.ntmps17
  go_wp2_with fail
  refine (HC.out _).mono ?_
  rintro e w1 ⟨rfl, rfl⟩
  have hbel := HB.out.bel
  clear HB HC
  go_wp2
  go_ret
  exact ⟨rfl, hbel⟩
set_option maxRecDepth 20000 in
theorem bText_num {w : World} {m : Int} {s : Nat} (HD : ∀ W : World, Calls Tryz.prog 37 #[.agg #[.int .i64 m, .int .i64 (s : Nat)]] W fun x w' => x = .returned (sL (decTx m s)) ∧ Below W.heap.size W w') :
    Calls Tryz.prog 17 #[.agg #[.int .i64 1, .int .i64 m, .int .i64 (s : Nat), .string ⟨#[]⟩, .bool false, .int .i64 0]] w fun x w' => x = .returned (sL (decTx m s)) ∧ Below w.heap.size w w' := by
  have HC : Hid (∀ W : World, Calls Tryz.prog 37 #[.agg #[.int .i64 m, .int .i64 (s : Nat)]] W fun x w' => x = .returned (sL (decTx m s)) ∧ Below W.heap.size W w') := Lib.hid (fun W => HD W)
  clear HD
  generalize sL (decTx m s) = V at *
  have HB := Lib.hid (sb1 w 29 #[.int .i64 1, .int .i64 m, .int .i64 (s : Nat), .string ⟨#[]⟩, .bool false, .int .i64 0])
  go_enter Tryz.func17, Tryz.ntmps17
  go_wp2_with fail
  refine (HC.out _).mono ?_
  rintro e w1 ⟨rfl, hb⟩
  have hbel := (HB.out.call hb).bel
  clear hb HB HC
  go_wp2
  go_ret
  exact ⟨rfl, hbel⟩
set_option maxRecDepth 20000 in
theorem bWords_blank {w : World} :
    Calls Tryz.prog 13 #[.agg #[.int .i64 0, .int .i64 0, .int .i64 0, .string ⟨#[]⟩, .bool false, .int .i64 0]] w fun x w' => x = .returned (.tuple #[sL [], .agg #[.int .i64 0, .int .i64 0, .int .i64 0, .string ⟨#[]⟩, .bool false, .int .i64 0], .bool true]) ∧ Below w.heap.size w w' := by
  have HC : Hid (∀ W : World, Calls Tryz.prog 17 #[.agg #[.int .i64 0, .int .i64 0, .int .i64 0, .string ⟨#[]⟩, .bool false, .int .i64 0]] W fun x w' => x = .returned (sL []) ∧ Below W.heap.size W w') := Lib.hid (fun W => bText_blank)
  obtain ⟨V, hV⟩ : ∃ V, sL [] = V := ⟨_, rfl⟩
  rw [hV] at HC ⊢
  clear hV
  have HB := Lib.hid ((sb1 w 29 #[.int .i64 0, .int .i64 0, .int .i64 0, .string ⟨#[]⟩, .bool false, .int .i64 0]).push (by simp) 29 #[.int .i64 0, .int .i64 0, .int .i64 0, .string ⟨#[]⟩, .bool false, .int .i64 0])
  go_enter Tryz.func13, Tryz.ntmps13
  go_wp2_with fail
  refine (HC.out _).mono ?_
  rintro e w1 ⟨rfl, hb⟩
  have hB := HB.out.call hb
  have hF := hB.put6 (i := 0) rfl (by omega) (by simp [butBox] <;> omega) (.int .i64 0 : Value) (.int .i64 0 : Value) (.int .i64 0 : Value) (.string ⟨#[]⟩ : Value) (.bool false : Value) (.int .i64 0 : Value)
  have hbel := hF.bel
  have kr := hB.box (i := 0) rfl
  have cr0 := kr.cell 0
  have zr0 := kr.frozen 0
  have cr1 := kr.cell 1
  have zr1 := kr.frozen 1
  have cr2 := kr.cell 2
  have zr2 := kr.frozen 2
  have cr3 := kr.cell 3
  have zr3 := kr.frozen 3
  have cr4 := kr.cell 4
  have zr4 := kr.frozen 4
  have cr5 := kr.cell 5
  have zr5 := kr.frozen 5
  clear kr
  clear hb HB HC hB hF
  go_wp2
  refine bodyPost_ret (v := .tuple #[V, .agg #[.int .i64 0, .int .i64 0, .int .i64 0, .string ⟨#[]⟩, .bool false, .int .i64 0], .bool true]) ?_ rfl ⟨rfl, hbel⟩
  simp [results, Tryz.results13, go_sem, cr0, cr1, cr2, cr3, cr4, cr5]
set_option maxRecDepth 20000 in
theorem bWords_str {w : World} (t : ByteArray) :
    Calls Tryz.prog 13 #[.agg #[.int .i64 2, .int .i64 0, .int .i64 0, .string t, .bool false, .int .i64 0]] w fun x w' => x = .returned (.tuple #[.string t, .agg #[.int .i64 0, .int .i64 0, .int .i64 0, .string ⟨#[]⟩, .bool false, .int .i64 0], .bool true]) ∧ Below w.heap.size w w' := by
  have HC : Hid (∀ W : World, Calls Tryz.prog 17 #[.agg #[.int .i64 2, .int .i64 0, .int .i64 0, .string t, .bool false, .int .i64 0]] W fun x w' => x = .returned (.string t) ∧ Below W.heap.size W w') := Lib.hid (fun W => bText_str t)
  have HB := Lib.hid ((sb1 w 29 #[.int .i64 2, .int .i64 0, .int .i64 0, .string t, .bool false, .int .i64 0]).push (by simp) 29 #[.int .i64 0, .int .i64 0, .int .i64 0, .string ⟨#[]⟩, .bool false, .int .i64 0])
  go_enter Tryz.func13, Tryz.ntmps13
  go_wp2_with fail
  refine (HC.out _).mono ?_
  rintro e w1 ⟨rfl, hb⟩
  have hB := HB.out.call hb
  have hF := hB.put6 (i := 0) rfl (by omega) (by simp [butBox] <;> omega) (.int .i64 0 : Value) (.int .i64 0 : Value) (.int .i64 0 : Value) (.string ⟨#[]⟩ : Value) (.bool false : Value) (.int .i64 0 : Value)
  have hbel := hF.bel
  have kr := hB.box (i := 0) rfl
  have cr0 := kr.cell 0
  have zr0 := kr.frozen 0
  have cr1 := kr.cell 1
  have zr1 := kr.frozen 1
  have cr2 := kr.cell 2
  have zr2 := kr.frozen 2
  have cr3 := kr.cell 3
  have zr3 := kr.frozen 3
  have cr4 := kr.cell 4
  have zr4 := kr.frozen 4
  have cr5 := kr.cell 5
  have zr5 := kr.frozen 5
  clear kr
  clear hb HB HC hB hF
  go_wp2
  refine bodyPost_ret (v := .tuple #[.string t, .agg #[.int .i64 0, .int .i64 0, .int .i64 0, .string ⟨#[]⟩, .bool false, .int .i64 0], .bool true]) ?_ rfl ⟨rfl, hbel⟩
  simp [results, Tryz.results13, go_sem, cr0, cr1, cr2, cr3, cr4, cr5]
set_option maxRecDepth 20000 in
theorem bWords_bool {w : World} (b : Bool) :
    Calls Tryz.prog 13 #[.agg #[.int .i64 3, .int .i64 0, .int .i64 0, .string ⟨#[]⟩, .bool b, .int .i64 0]] w fun x w' => x = .returned (.tuple #[sL (trL b), .agg #[.int .i64 0, .int .i64 0, .int .i64 0, .string ⟨#[]⟩, .bool false, .int .i64 0], .bool true]) ∧ Below w.heap.size w w' := by
  have HC : Hid (∀ W : World, Calls Tryz.prog 17 #[.agg #[.int .i64 3, .int .i64 0, .int .i64 0, .string ⟨#[]⟩, .bool b, .int .i64 0]] W fun x w' => x = .returned (sL (trL b)) ∧ Below W.heap.size W w') := Lib.hid (fun W => bText_bool b)
  obtain ⟨V, hV⟩ : ∃ V, sL (trL b) = V := ⟨_, rfl⟩
  rw [hV] at HC ⊢
  clear hV
  have HB := Lib.hid ((sb1 w 29 #[.int .i64 3, .int .i64 0, .int .i64 0, .string ⟨#[]⟩, .bool b, .int .i64 0]).push (by simp) 29 #[.int .i64 0, .int .i64 0, .int .i64 0, .string ⟨#[]⟩, .bool false, .int .i64 0])
  go_enter Tryz.func13, Tryz.ntmps13
  go_wp2_with fail
  refine (HC.out _).mono ?_
  rintro e w1 ⟨rfl, hb⟩
  have hB := HB.out.call hb
  have hF := hB.put6 (i := 0) rfl (by omega) (by simp [butBox] <;> omega) (.int .i64 0 : Value) (.int .i64 0 : Value) (.int .i64 0 : Value) (.string ⟨#[]⟩ : Value) (.bool false : Value) (.int .i64 0 : Value)
  have hbel := hF.bel
  have kr := hB.box (i := 0) rfl
  have cr0 := kr.cell 0
  have zr0 := kr.frozen 0
  have cr1 := kr.cell 1
  have zr1 := kr.frozen 1
  have cr2 := kr.cell 2
  have zr2 := kr.frozen 2
  have cr3 := kr.cell 3
  have zr3 := kr.frozen 3
  have cr4 := kr.cell 4
  have zr4 := kr.frozen 4
  have cr5 := kr.cell 5
  have zr5 := kr.frozen 5
  clear kr
  clear hb HB HC hB hF
  go_wp2
  refine bodyPost_ret (v := .tuple #[V, .agg #[.int .i64 0, .int .i64 0, .int .i64 0, .string ⟨#[]⟩, .bool false, .int .i64 0], .bool true]) ?_ rfl ⟨rfl, hbel⟩
  simp [results, Tryz.results13, go_sem, cr0, cr1, cr2, cr3, cr4, cr5]
set_option maxRecDepth 20000 in
theorem bWords_num {w : World} {m : Int} {s : Nat} (HD : ∀ W : World, Calls Tryz.prog 37 #[.agg #[.int .i64 m, .int .i64 (s : Nat)]] W fun x w' => x = .returned (sL (decTx m s)) ∧ Below W.heap.size W w') :
    Calls Tryz.prog 13 #[.agg #[.int .i64 1, .int .i64 m, .int .i64 (s : Nat), .string ⟨#[]⟩, .bool false, .int .i64 0]] w fun x w' => x = .returned (.tuple #[sL (decTx m s), .agg #[.int .i64 0, .int .i64 0, .int .i64 0, .string ⟨#[]⟩, .bool false, .int .i64 0], .bool true]) ∧ Below w.heap.size w w' := by
  have HC : Hid (∀ W : World, Calls Tryz.prog 17 #[.agg #[.int .i64 1, .int .i64 m, .int .i64 (s : Nat), .string ⟨#[]⟩, .bool false, .int .i64 0]] W fun x w' => x = .returned (sL (decTx m s)) ∧ Below W.heap.size W w') := Lib.hid (fun W => bText_num HD)
  obtain ⟨V, hV⟩ : ∃ V, sL (decTx m s) = V := ⟨_, rfl⟩
  rw [hV] at HC ⊢
  clear hV
  have HB := Lib.hid ((sb1 w 29 #[.int .i64 1, .int .i64 m, .int .i64 (s : Nat), .string ⟨#[]⟩, .bool false, .int .i64 0]).push (by simp) 29 #[.int .i64 0, .int .i64 0, .int .i64 0, .string ⟨#[]⟩, .bool false, .int .i64 0])
  go_enter Tryz.func13, Tryz.ntmps13
  go_wp2_with fail
  refine (HC.out _).mono ?_
  rintro e w1 ⟨rfl, hb⟩
  have hB := HB.out.call hb
  have hF := hB.put6 (i := 0) rfl (by omega) (by simp [butBox] <;> omega) (.int .i64 0 : Value) (.int .i64 0 : Value) (.int .i64 0 : Value) (.string ⟨#[]⟩ : Value) (.bool false : Value) (.int .i64 0 : Value)
  have hbel := hF.bel
  have kr := hB.box (i := 0) rfl
  have cr0 := kr.cell 0
  have zr0 := kr.frozen 0
  have cr1 := kr.cell 1
  have zr1 := kr.frozen 1
  have cr2 := kr.cell 2
  have zr2 := kr.frozen 2
  have cr3 := kr.cell 3
  have zr3 := kr.frozen 3
  have cr4 := kr.cell 4
  have zr4 := kr.frozen 4
  have cr5 := kr.cell 5
  have zr5 := kr.frozen 5
  clear kr
  clear hb HB HC hB hF
  go_wp2
  refine bodyPost_ret (v := .tuple #[V, .agg #[.int .i64 0, .int .i64 0, .int .i64 0, .string ⟨#[]⟩, .bool false, .int .i64 0], .bool true]) ?_ rfl ⟨rfl, hbel⟩
  simp [results, Tryz.results13, go_sem, cr0, cr1, cr2, cr3, cr4, cr5]
set_option maxRecDepth 20000 in
theorem bWords_err {w : World} (e : Int) :
    Calls Tryz.prog 13 #[.agg #[.int .i64 4, .int .i64 0, .int .i64 0, .string ⟨#[]⟩, .bool false, .int .i64 e]] w fun x w' => x = .returned (.tuple #[.string ⟨#[]⟩, .agg #[.int .i64 4, .int .i64 0, .int .i64 0, .string ⟨#[]⟩, .bool false, .int .i64 e], .bool false]) ∧ Below w.heap.size w w' := by
  have HB := Lib.hid ((sb1 w 29 #[.int .i64 4, .int .i64 0, .int .i64 0, .string ⟨#[]⟩, .bool false, .int .i64 e]).push (by simp) 29 #[.int .i64 0, .int .i64 0, .int .i64 0, .string ⟨#[]⟩, .bool false, .int .i64 0])
  go_enter Tryz.func13, Tryz.ntmps13
  go_wp2_with fail
  refine wp_region_phases (S := (fun vals W => SX w 2 ([.put 0 #[.int .i64 4, .int .i64 0, .int .i64 0, .string ⟨#[]⟩, .bool false, .int .i64 e]] : List Stp) vals ([(w.heap.size + 1, 29, #[.int .i64 0, .int .i64 0, .int .i64 0, .string ⟨#[]⟩, .bool false, .int .i64 0]), (w.heap.size, 29, #[.int .i64 4, .int .i64 0, .int .i64 0, .string ⟨#[]⟩, .bool false, .int .i64 e])] : List (Nat × TypeId × Array Value)) W)) (E := (fun _ _ => True)) [2] [(1, Is (.pointer (some ⟨w.heap.size, 0, none⟩))), (3, Is (.pointer (some ⟨w.heap.size + 1, 0, none⟩)))] [(8, Is (.agg #[.int .i64 4, .int .i64 0, .int .i64 0, .string ⟨#[]⟩, .bool false, .int .i64 e])), (2, Is (.string ⟨#[]⟩)), (4, Is (.bool false))]
    [.op [1] none, .op [] none, .phase 0 [3, 8] [], .op [] none] (by as_aux_lemma => kernel_rfl) ?_ ?_ ?_ ?_ ?_ ⟨stable_is _ _, stable_is _ _, stable_is _ _, stable_is _ _, stable_is _ _, trivial⟩ ?_ (HB.out.drew) ?_ ?_
  · as_aux_lemma => kernel_rfl
  · as_aux_lemma => kernel_rfl
  · as_aux_lemma => kernel_rfl
  · as_aux_lemma => kernel_rfl
  · as_aux_lemma => kernel_rfl
  · exact ⟨rfl, rfl, trivial⟩
  · refine ⟨?_, ?_, ?_, ?_, trivial⟩
    · as_aux_lemma =>
        intro vals a W hS hL
        have e1 : a.tmps.getD 1 undef = .pointer (some ⟨w.heap.size, 0, none⟩) := hL.1
        clear hL
        have kb : Bk W (w.heap.size) 29 #[.int .i64 4, .int .i64 0, .int .i64 0, .string ⟨#[]⟩, .bool false, .int .i64 e] := hS.bk 1 rfl rfl
        have f0 := kb.cell 0
        have f1 := kb.cell 1
        have f2 := kb.cell 2
        have f3 := kb.cell 3
        have f4 := kb.cell 4
        have f5 := kb.cell 5
        clear kb
        go_simp
        exact ⟨⟨fun d hd => by injection hd with hd; subst hd; rfl, fun h => by cases h⟩, hS, trivial⟩
    · as_aux_lemma =>
        intro vals a W hS hL
        clear hL
        go_simp
        exact ⟨⟨fun d hd => by injection hd with hd; subst hd; rfl, fun h => by cases h⟩, hS, trivial⟩
    · skip
      intro a W vals hv hS hL hp
      have e3 : a.tmps.getD 3 undef = .pointer (some ⟨w.heap.size + 1, 0, none⟩) := hL.1
      have e8 : a.tmps.getD 8 undef = .agg #[.int .i64 4, .int .i64 0, .int .i64 0, .string ⟨#[]⟩, .bool false, .int .i64 e] := hL.2.1
      clear hL
      match vals, hv, hS with
      | [], _, hS =>
        have hS2 : SX w 2 ([.put 0 #[.int .i64 4, .int .i64 0, .int .i64 0, .string ⟨#[]⟩, .bool false, .int .i64 e]] : List Stp) [] ([(w.heap.size + 1, 29, #[.int .i64 0, .int .i64 0, .int .i64 0, .string ⟨#[]⟩, .bool false, .int .i64 0]), (w.heap.size, 29, #[.int .i64 4, .int .i64 0, .int .i64 0, .string ⟨#[]⟩, .bool false, .int .i64 e])] : List (Nat × TypeId × Array Value)) W := hS
        clear hS
        have hB0 := hS2
        have hB : SB w 2 ([(w.heap.size + 1, 29, #[.int .i64 0, .int .i64 0, .int .i64 0, .string ⟨#[]⟩, .bool false, .int .i64 0]), (w.heap.size, 29, #[.int .i64 4, .int .i64 0, .int .i64 0, .string ⟨#[]⟩, .bool false, .int .i64 e])] : List (Nat × TypeId × Array Value)) W := hB0
        clear hB0
        rw [Array.getD_eq_getD_getElem?] at e8
        have kz := hB.box (i := 0) rfl
        have z0 := kz.frozen 0
        have q0 := kz.cell 0
        have z1 := kz.frozen 1
        have q1 := kz.cell 1
        have z2 := kz.frozen 2
        have q2 := kz.cell 2
        have z3 := kz.frozen 3
        have q3 := kz.cell 3
        have z4 := kz.frozen 4
        have q4 := kz.cell 4
        have z5 := kz.frozen 5
        have q5 := kz.cell 5
        have hge : w.heap.size ≤ (w.heap.size + 1) := by omega
        have hne : ∀ qx ∈ butBox ([(w.heap.size + 1, 29, #[.int .i64 0, .int .i64 0, .int .i64 0, .string ⟨#[]⟩, .bool false, .int .i64 0]), (w.heap.size, 29, #[.int .i64 4, .int .i64 0, .int .i64 0, .string ⟨#[]⟩, .bool false, .int .i64 e])] : List (Nat × TypeId × Array Value)) 0, qx.1 ≠ (w.heap.size + 1) := by simp [butBox] <;> omega
        have hF := hB.put6 (i := 0) rfl hge hne (.int .i64 4 : Value) (.int .i64 0 : Value) (.int .i64 0 : Value) (.string ⟨#[]⟩ : Value) (.bool false : Value) (.int .i64 e : Value)
        clear kz hB hne hge
        go_simp
        exact ⟨hF, trivial, trivial⟩
    · as_aux_lemma =>
        intro vals a W hS hL
        clear hL
        go_simp
        exact ⟨⟨fun d hd => by injection hd with hd; subst hd; rfl, fun h => by cases h⟩, hS, trivial⟩
  · intro a W' vals hd hsz hT hF hv hP hS
    obtain ⟨v0, rfl⟩ : ∃ v0, vals = [v0] := by
      match vals, hv with
      | [v0], _ => exact ⟨v0, rfl⟩
    have hS2 : SX w 2 ([.put 0 #[.int .i64 4, .int .i64 0, .int .i64 0, .string ⟨#[]⟩, .bool false, .int .i64 e]] : List Stp) [v0] ([(w.heap.size + 1, 29, #[.int .i64 0, .int .i64 0, .int .i64 0, .string ⟨#[]⟩, .bool false, .int .i64 0]), (w.heap.size, 29, #[.int .i64 4, .int .i64 0, .int .i64 0, .string ⟨#[]⟩, .bool false, .int .i64 e])] : List (Nat × TypeId × Array Value)) W' := hS
    clear hS
    have hB0 := hS2
    have hB : SB w 2 ([(w.heap.size + 1, 29, #[.int .i64 4, .int .i64 0, .int .i64 0, .string ⟨#[]⟩, .bool false, .int .i64 e]), (w.heap.size, 29, #[.int .i64 4, .int .i64 0, .int .i64 0, .string ⟨#[]⟩, .bool false, .int .i64 e])] : List (Nat × TypeId × Array Value)) W' := hB0
    clear hB0
    have kz0 := hB.box (i := 0) rfl
    have r0_0 := kz0.cell 0
    have r0_1 := kz0.cell 1
    have r0_2 := kz0.cell 2
    have r0_3 := kz0.cell 3
    have r0_4 := kz0.cell 4
    have r0_5 := kz0.cell 5
    clear kz0
    have e2 : a.tmps.getD 2 undef = .string ⟨#[]⟩ := hT 2 (by simp)
    have e3 : a.tmps.getD 3 undef = .pointer (some ⟨w.heap.size + 1, 0, none⟩) := hT 3 (by simp)
    have e4 : a.tmps.getD 4 undef = .bool false := hT 4 (by simp)
    clear hT hF hP
    go_wp2
    refine bodyPost_ret (v := .tuple #[.string ⟨#[]⟩, .agg #[.int .i64 4, .int .i64 0, .int .i64 0, .string ⟨#[]⟩, .bool false, .int .i64 e], .bool false]) ?_ hd ⟨rfl, hB.bel⟩
    rw [Array.getD_eq_getD_getElem?] at e2 e3 e4
    simp [results, Tryz.results13, go_sem, e2, e3, e4, r0_0, r0_1, r0_2, r0_3, r0_4, r0_5]
set_option maxRecDepth 20000 in
theorem bTruth_blank {w : World} :
    Calls Tryz.prog 15 #[.agg #[.int .i64 0, .int .i64 0, .int .i64 0, .string ⟨#[]⟩, .bool false, .int .i64 0]] w fun x w' => x = .returned (.tuple #[.bool false, .agg #[.int .i64 0, .int .i64 0, .int .i64 0, .string ⟨#[]⟩, .bool false, .int .i64 0], .bool true]) ∧ Below w.heap.size w w' := by
  go_enter Tryz.func15, Tryz.ntmps15
  go_wp2
  exact bodyPost_ret (v := .tuple #[.bool false, .agg #[.int .i64 0, .int .i64 0, .int .i64 0, .string ⟨#[]⟩, .bool false, .int .i64 0], .bool true]) (by simp [results, Tryz.results15, go_sem]) rfl ⟨rfl, bel1 _ _ _⟩
set_option maxRecDepth 20000 in
theorem bTruth_num0 {w : World} (s : Int) :
    Calls Tryz.prog 15 #[.agg #[.int .i64 1, .int .i64 0, .int .i64 s, .string ⟨#[]⟩, .bool false, .int .i64 0]] w fun x w' => x = .returned (.tuple #[.bool false, .agg #[.int .i64 0, .int .i64 0, .int .i64 0, .string ⟨#[]⟩, .bool false, .int .i64 0], .bool true]) ∧ Below w.heap.size w w' := by
  go_enter Tryz.func15, Tryz.ntmps15
  go_wp2
  exact bodyPost_ret (v := .tuple #[.bool false, .agg #[.int .i64 0, .int .i64 0, .int .i64 0, .string ⟨#[]⟩, .bool false, .int .i64 0], .bool true]) (by simp [results, Tryz.results15, go_sem]) rfl ⟨rfl, bel1 _ _ _⟩
set_option maxRecDepth 20000 in
theorem bTruth_numn {w : World} (m s : Int) (h : ¬ m = 0) :
    Calls Tryz.prog 15 #[.agg #[.int .i64 1, .int .i64 m, .int .i64 s, .string ⟨#[]⟩, .bool false, .int .i64 0]] w fun x w' => x = .returned (.tuple #[.bool true, .agg #[.int .i64 0, .int .i64 0, .int .i64 0, .string ⟨#[]⟩, .bool false, .int .i64 0], .bool true]) ∧ Below w.heap.size w w' := by
  go_enter Tryz.func15, Tryz.ntmps15
  go_wp2
  exact bodyPost_ret (v := .tuple #[.bool true, .agg #[.int .i64 0, .int .i64 0, .int .i64 0, .string ⟨#[]⟩, .bool false, .int .i64 0], .bool true]) (by simp [results, Tryz.results15, go_sem]; exact h) rfl ⟨rfl, bel1 _ _ _⟩
set_option maxRecDepth 20000 in
theorem bTruth_yes {w : World} :
    Calls Tryz.prog 15 #[.agg #[.int .i64 2, .int .i64 0, .int .i64 0, .string ⟨#[84, 82, 85, 69]⟩, .bool false, .int .i64 0]] w fun x w' => x = .returned (.tuple #[.bool true, .agg #[.int .i64 0, .int .i64 0, .int .i64 0, .string ⟨#[]⟩, .bool false, .int .i64 0], .bool true]) ∧ Below w.heap.size w w' := by
  go_enter Tryz.func15, Tryz.ntmps15
  go_wp2
  exact bodyPost_ret (v := .tuple #[.bool true, .agg #[.int .i64 0, .int .i64 0, .int .i64 0, .string ⟨#[]⟩, .bool false, .int .i64 0], .bool true]) (by simp [results, Tryz.results15, go_sem]) rfl ⟨rfl, bel1 _ _ _⟩
set_option maxRecDepth 20000 in
theorem bTruth_no {w : World} :
    Calls Tryz.prog 15 #[.agg #[.int .i64 2, .int .i64 0, .int .i64 0, .string ⟨#[70, 65, 76, 83, 69]⟩, .bool false, .int .i64 0]] w fun x w' => x = .returned (.tuple #[.bool false, .agg #[.int .i64 0, .int .i64 0, .int .i64 0, .string ⟨#[]⟩, .bool false, .int .i64 0], .bool true]) ∧ Below w.heap.size w w' := by
  go_enter Tryz.func15, Tryz.ntmps15
  go_wp2
  exact bodyPost_ret (v := .tuple #[.bool false, .agg #[.int .i64 0, .int .i64 0, .int .i64 0, .string ⟨#[]⟩, .bool false, .int .i64 0], .bool true]) (by simp [results, Tryz.results15, go_sem]) rfl ⟨rfl, bel1 _ _ _⟩
set_option maxRecDepth 20000 in
theorem bTruth_bool {w : World} (b : Bool) :
    Calls Tryz.prog 15 #[.agg #[.int .i64 3, .int .i64 0, .int .i64 0, .string ⟨#[]⟩, .bool b, .int .i64 0]] w fun x w' => x = .returned (.tuple #[.bool b, .agg #[.int .i64 0, .int .i64 0, .int .i64 0, .string ⟨#[]⟩, .bool false, .int .i64 0], .bool true]) ∧ Below w.heap.size w w' := by
  go_enter Tryz.func15, Tryz.ntmps15
  go_wp2
  exact bodyPost_ret (v := .tuple #[.bool b, .agg #[.int .i64 0, .int .i64 0, .int .i64 0, .string ⟨#[]⟩, .bool false, .int .i64 0], .bool true]) (by simp [results, Tryz.results15, go_sem]) rfl ⟨rfl, bel1 _ _ _⟩
set_option maxRecDepth 20000 in
theorem bTruth_err {w : World} (e : Int) :
    Calls Tryz.prog 15 #[.agg #[.int .i64 4, .int .i64 0, .int .i64 0, .string ⟨#[]⟩, .bool false, .int .i64 e]] w fun x w' => x = .returned (.tuple #[.bool false, .agg #[.int .i64 4, .int .i64 0, .int .i64 0, .string ⟨#[]⟩, .bool false, .int .i64 e], .bool false]) ∧ Below w.heap.size w w' := by
  have HB := Lib.hid ((sb1 w 29 #[.int .i64 4, .int .i64 0, .int .i64 0, .string ⟨#[]⟩, .bool false, .int .i64 e]).push (by simp) 29 #[.int .i64 0, .int .i64 0, .int .i64 0, .string ⟨#[]⟩, .bool false, .int .i64 0])
  go_enter Tryz.func15, Tryz.ntmps15
  go_wp2_with fail
  refine wp_region_phases (S := (fun vals W => SX w 2 ([.put 0 #[.int .i64 4, .int .i64 0, .int .i64 0, .string ⟨#[]⟩, .bool false, .int .i64 e]] : List Stp) vals ([(w.heap.size + 1, 29, #[.int .i64 0, .int .i64 0, .int .i64 0, .string ⟨#[]⟩, .bool false, .int .i64 0]), (w.heap.size, 29, #[.int .i64 4, .int .i64 0, .int .i64 0, .string ⟨#[]⟩, .bool false, .int .i64 e])] : List (Nat × TypeId × Array Value)) W)) (E := (fun _ _ => True)) [2] [(1, Is (.pointer (some ⟨w.heap.size, 0, none⟩))), (3, Is (.pointer (some ⟨w.heap.size + 1, 0, none⟩)))] [(36, Is (.agg #[.int .i64 4, .int .i64 0, .int .i64 0, .string ⟨#[]⟩, .bool false, .int .i64 e])), (2, Is (.bool false)), (4, Is (.bool false))]
    [.op [1] none, .op [] none, .phase 0 [3, 36] [], .op [] none] (by as_aux_lemma => kernel_rfl) ?_ ?_ ?_ ?_ ?_ ⟨stable_is _ _, stable_is _ _, stable_is _ _, stable_is _ _, stable_is _ _, trivial⟩ ?_ (HB.out.drew) ?_ ?_
  · as_aux_lemma => kernel_rfl
  · as_aux_lemma => kernel_rfl
  · as_aux_lemma => kernel_rfl
  · as_aux_lemma => kernel_rfl
  · as_aux_lemma => kernel_rfl
  · exact ⟨rfl, rfl, trivial⟩
  · refine ⟨?_, ?_, ?_, ?_, trivial⟩
    · as_aux_lemma =>
        intro vals a W hS hL
        have e1 : a.tmps.getD 1 undef = .pointer (some ⟨w.heap.size, 0, none⟩) := hL.1
        clear hL
        have kb : Bk W (w.heap.size) 29 #[.int .i64 4, .int .i64 0, .int .i64 0, .string ⟨#[]⟩, .bool false, .int .i64 e] := hS.bk 1 rfl rfl
        have f0 := kb.cell 0
        have f1 := kb.cell 1
        have f2 := kb.cell 2
        have f3 := kb.cell 3
        have f4 := kb.cell 4
        have f5 := kb.cell 5
        clear kb
        go_simp
        exact ⟨⟨fun d hd => by injection hd with hd; subst hd; rfl, fun h => by cases h⟩, hS, trivial⟩
    · as_aux_lemma =>
        intro vals a W hS hL
        clear hL
        go_simp
        exact ⟨⟨fun d hd => by injection hd with hd; subst hd; rfl, fun h => by cases h⟩, hS, trivial⟩
    · skip
      intro a W vals hv hS hL hp
      have e3 : a.tmps.getD 3 undef = .pointer (some ⟨w.heap.size + 1, 0, none⟩) := hL.1
      have e36 : a.tmps.getD 36 undef = .agg #[.int .i64 4, .int .i64 0, .int .i64 0, .string ⟨#[]⟩, .bool false, .int .i64 e] := hL.2.1
      clear hL
      match vals, hv, hS with
      | [], _, hS =>
        have hS2 : SX w 2 ([.put 0 #[.int .i64 4, .int .i64 0, .int .i64 0, .string ⟨#[]⟩, .bool false, .int .i64 e]] : List Stp) [] ([(w.heap.size + 1, 29, #[.int .i64 0, .int .i64 0, .int .i64 0, .string ⟨#[]⟩, .bool false, .int .i64 0]), (w.heap.size, 29, #[.int .i64 4, .int .i64 0, .int .i64 0, .string ⟨#[]⟩, .bool false, .int .i64 e])] : List (Nat × TypeId × Array Value)) W := hS
        clear hS
        have hB0 := hS2
        have hB : SB w 2 ([(w.heap.size + 1, 29, #[.int .i64 0, .int .i64 0, .int .i64 0, .string ⟨#[]⟩, .bool false, .int .i64 0]), (w.heap.size, 29, #[.int .i64 4, .int .i64 0, .int .i64 0, .string ⟨#[]⟩, .bool false, .int .i64 e])] : List (Nat × TypeId × Array Value)) W := hB0
        clear hB0
        rw [Array.getD_eq_getD_getElem?] at e36
        have kz := hB.box (i := 0) rfl
        have z0 := kz.frozen 0
        have q0 := kz.cell 0
        have z1 := kz.frozen 1
        have q1 := kz.cell 1
        have z2 := kz.frozen 2
        have q2 := kz.cell 2
        have z3 := kz.frozen 3
        have q3 := kz.cell 3
        have z4 := kz.frozen 4
        have q4 := kz.cell 4
        have z5 := kz.frozen 5
        have q5 := kz.cell 5
        have hge : w.heap.size ≤ (w.heap.size + 1) := by omega
        have hne : ∀ qx ∈ butBox ([(w.heap.size + 1, 29, #[.int .i64 0, .int .i64 0, .int .i64 0, .string ⟨#[]⟩, .bool false, .int .i64 0]), (w.heap.size, 29, #[.int .i64 4, .int .i64 0, .int .i64 0, .string ⟨#[]⟩, .bool false, .int .i64 e])] : List (Nat × TypeId × Array Value)) 0, qx.1 ≠ (w.heap.size + 1) := by simp [butBox] <;> omega
        have hF := hB.put6 (i := 0) rfl hge hne (.int .i64 4 : Value) (.int .i64 0 : Value) (.int .i64 0 : Value) (.string ⟨#[]⟩ : Value) (.bool false : Value) (.int .i64 e : Value)
        clear kz hB hne hge
        go_simp
        exact ⟨hF, trivial, trivial⟩
    · as_aux_lemma =>
        intro vals a W hS hL
        clear hL
        go_simp
        exact ⟨⟨fun d hd => by injection hd with hd; subst hd; rfl, fun h => by cases h⟩, hS, trivial⟩
  · intro a W' vals hd hsz hT hF hv hP hS
    obtain ⟨v0, rfl⟩ : ∃ v0, vals = [v0] := by
      match vals, hv with
      | [v0], _ => exact ⟨v0, rfl⟩
    have hS2 : SX w 2 ([.put 0 #[.int .i64 4, .int .i64 0, .int .i64 0, .string ⟨#[]⟩, .bool false, .int .i64 e]] : List Stp) [v0] ([(w.heap.size + 1, 29, #[.int .i64 0, .int .i64 0, .int .i64 0, .string ⟨#[]⟩, .bool false, .int .i64 0]), (w.heap.size, 29, #[.int .i64 4, .int .i64 0, .int .i64 0, .string ⟨#[]⟩, .bool false, .int .i64 e])] : List (Nat × TypeId × Array Value)) W' := hS
    clear hS
    have hB0 := hS2
    have hB : SB w 2 ([(w.heap.size + 1, 29, #[.int .i64 4, .int .i64 0, .int .i64 0, .string ⟨#[]⟩, .bool false, .int .i64 e]), (w.heap.size, 29, #[.int .i64 4, .int .i64 0, .int .i64 0, .string ⟨#[]⟩, .bool false, .int .i64 e])] : List (Nat × TypeId × Array Value)) W' := hB0
    clear hB0
    have kz0 := hB.box (i := 0) rfl
    have r0_0 := kz0.cell 0
    have r0_1 := kz0.cell 1
    have r0_2 := kz0.cell 2
    have r0_3 := kz0.cell 3
    have r0_4 := kz0.cell 4
    have r0_5 := kz0.cell 5
    clear kz0
    have e2 : a.tmps.getD 2 undef = .bool false := hT 2 (by simp)
    have e3 : a.tmps.getD 3 undef = .pointer (some ⟨w.heap.size + 1, 0, none⟩) := hT 3 (by simp)
    have e4 : a.tmps.getD 4 undef = .bool false := hT 4 (by simp)
    clear hT hF hP
    go_wp2
    refine bodyPost_ret (v := .tuple #[.bool false, .agg #[.int .i64 4, .int .i64 0, .int .i64 0, .string ⟨#[]⟩, .bool false, .int .i64 e], .bool false]) ?_ hd ⟨rfl, hB.bel⟩
    rw [Array.getD_eq_getD_getElem?] at e2 e3 e4
    simp [results, Tryz.results15, go_sem, e2, e3, e4, r0_0, r0_1, r0_2, r0_3, r0_4, r0_5]
set_option maxRecDepth 20000 in
theorem bTruth_none {w : World} (t : ByteArray) (h1 : (t.toList == [84, 82, 85, 69]) = false) (h2 : (t.toList == [70, 65, 76, 83, 69]) = false) :
    Calls Tryz.prog 15 #[.agg #[.int .i64 2, .int .i64 0, .int .i64 0, .string t, .bool false, .int .i64 0]] w fun x w' => x = .returned (.tuple #[.bool false, .agg #[.int .i64 4, .int .i64 0, .int .i64 0, .string ⟨#[]⟩, .bool false, .int .i64 15], .bool false]) ∧ Below w.heap.size w w' := by
  have HX := Lib.hid (fun W : World => bFault_any (w := W) 15)
  have HB := Lib.hid ((sb1 w 29 #[.int .i64 2, .int .i64 0, .int .i64 0, .string t, .bool false, .int .i64 0]).push (by simp) 29 #[.int .i64 0, .int .i64 0, .int .i64 0, .string ⟨#[]⟩, .bool false, .int .i64 0])
  go_enter Tryz.func15, Tryz.ntmps15
  go_wp2_with fail
  refine (HX.out _).mono ?_
  rintro e w9 ⟨rfl, hb⟩
  have hB := HB.out.call hb
  have hF := hB.put6 (i := 0) rfl (by omega) (by simp [butBox] <;> omega) (.int .i64 4 : Value) (.int .i64 0 : Value) (.int .i64 0 : Value) (.string ⟨#[]⟩ : Value) (.bool false : Value) (.int .i64 15 : Value)
  have hbel := hF.bel
  have kr := hB.box (i := 0) rfl
  have cr0 := kr.cell 0
  have zr0 := kr.frozen 0
  have cr1 := kr.cell 1
  have zr1 := kr.frozen 1
  have cr2 := kr.cell 2
  have zr2 := kr.frozen 2
  have cr3 := kr.cell 3
  have zr3 := kr.frozen 3
  have cr4 := kr.cell 4
  have zr4 := kr.frozen 4
  have cr5 := kr.cell 5
  have zr5 := kr.frozen 5
  clear kr
  clear hb HB HX hB hF
  go_wp2
  refine bodyPost_ret (v := .tuple #[.bool false, .agg #[.int .i64 4, .int .i64 0, .int .i64 0, .string ⟨#[]⟩, .bool false, .int .i64 15], .bool false]) ?_ rfl ⟨rfl, hbel⟩
  simp [results, Tryz.results15, go_sem, cr0, cr1, cr2, cr3, cr4, cr5]
set_option maxRecDepth 20000 in
theorem bNumber_blank {w : World} :
    Calls Tryz.prog 10 #[.agg #[.int .i64 0, .int .i64 0, .int .i64 0, .string ⟨#[]⟩, .bool false, .int .i64 0]] w fun x w' => x = .returned (.tuple #[.agg #[.int .i64 0, .int .i64 0], .agg #[.int .i64 0, .int .i64 0, .int .i64 0, .string ⟨#[]⟩, .bool false, .int .i64 0], .bool true]) ∧ Below w.heap.size w w' := by
  go_enter Tryz.func10, Tryz.ntmps10
  go_wp2
  exact bodyPost_ret (v := .tuple #[.agg #[.int .i64 0, .int .i64 0], .agg #[.int .i64 0, .int .i64 0, .int .i64 0, .string ⟨#[]⟩, .bool false, .int .i64 0], .bool true]) (by simp [results, Tryz.results10, go_sem]) rfl ⟨rfl, bel2 _ _ _ _⟩
set_option maxRecDepth 20000 in
theorem bNumber_num {w : World} (m s : Int) :
    Calls Tryz.prog 10 #[.agg #[.int .i64 1, .int .i64 m, .int .i64 s, .string ⟨#[]⟩, .bool false, .int .i64 0]] w fun x w' => x = .returned (.tuple #[.agg #[.int .i64 m, .int .i64 s], .agg #[.int .i64 0, .int .i64 0, .int .i64 0, .string ⟨#[]⟩, .bool false, .int .i64 0], .bool true]) ∧ Below w.heap.size w w' := by
  go_enter Tryz.func10, Tryz.ntmps10
  go_wp2
  exact bodyPost_ret (v := .tuple #[.agg #[.int .i64 m, .int .i64 s], .agg #[.int .i64 0, .int .i64 0, .int .i64 0, .string ⟨#[]⟩, .bool false, .int .i64 0], .bool true]) (by simp [results, Tryz.results10, go_sem]) rfl ⟨rfl, bel2 _ _ _ _⟩
set_option maxRecDepth 20000 in
theorem bNumber_true {w : World} :
    Calls Tryz.prog 10 #[.agg #[.int .i64 3, .int .i64 0, .int .i64 0, .string ⟨#[]⟩, .bool true, .int .i64 0]] w fun x w' => x = .returned (.tuple #[.agg #[.int .i64 1, .int .i64 0], .agg #[.int .i64 0, .int .i64 0, .int .i64 0, .string ⟨#[]⟩, .bool false, .int .i64 0], .bool true]) ∧ Below w.heap.size w w' := by
  go_enter Tryz.func10, Tryz.ntmps10
  go_wp2
  exact bodyPost_ret (v := .tuple #[.agg #[.int .i64 1, .int .i64 0], .agg #[.int .i64 0, .int .i64 0, .int .i64 0, .string ⟨#[]⟩, .bool false, .int .i64 0], .bool true]) (by simp [results, Tryz.results10, go_sem]) rfl ⟨rfl, bel2 _ _ _ _⟩
set_option maxRecDepth 20000 in
theorem bNumber_false {w : World} :
    Calls Tryz.prog 10 #[.agg #[.int .i64 3, .int .i64 0, .int .i64 0, .string ⟨#[]⟩, .bool false, .int .i64 0]] w fun x w' => x = .returned (.tuple #[.agg #[.int .i64 0, .int .i64 0], .agg #[.int .i64 0, .int .i64 0, .int .i64 0, .string ⟨#[]⟩, .bool false, .int .i64 0], .bool true]) ∧ Below w.heap.size w w' := by
  go_enter Tryz.func10, Tryz.ntmps10
  go_wp2
  exact bodyPost_ret (v := .tuple #[.agg #[.int .i64 0, .int .i64 0], .agg #[.int .i64 0, .int .i64 0, .int .i64 0, .string ⟨#[]⟩, .bool false, .int .i64 0], .bool true]) (by simp [results, Tryz.results10, go_sem]) rfl ⟨rfl, bel2 _ _ _ _⟩
set_option maxRecDepth 20000 in
theorem bNumber_err {w : World} (e : Int) :
    Calls Tryz.prog 10 #[.agg #[.int .i64 4, .int .i64 0, .int .i64 0, .string ⟨#[]⟩, .bool false, .int .i64 e]] w fun x w' => x = .returned (.tuple #[.agg #[.int .i64 0, .int .i64 0], .agg #[.int .i64 4, .int .i64 0, .int .i64 0, .string ⟨#[]⟩, .bool false, .int .i64 e], .bool false]) ∧ Below w.heap.size w w' := by
  have HB := Lib.hid (((sb1 w 29 #[.int .i64 4, .int .i64 0, .int .i64 0, .string ⟨#[]⟩, .bool false, .int .i64 e]).push (by simp) 27 #[.int .i64 0, .int .i64 0]).push (by simp) 29 #[.int .i64 0, .int .i64 0, .int .i64 0, .string ⟨#[]⟩, .bool false, .int .i64 0])
  go_enter Tryz.func10, Tryz.ntmps10
  go_wp2_with fail
  refine wp_region_phases (S := (fun vals W => SX w 3 ([.put 1 #[.int .i64 0, .int .i64 0], .put 0 #[.int .i64 4, .int .i64 0, .int .i64 0, .string ⟨#[]⟩, .bool false, .int .i64 e]] : List Stp) vals ([(w.heap.size + 2, 29, #[.int .i64 0, .int .i64 0, .int .i64 0, .string ⟨#[]⟩, .bool false, .int .i64 0]), (w.heap.size + 1, 27, #[.int .i64 0, .int .i64 0]), (w.heap.size, 29, #[.int .i64 4, .int .i64 0, .int .i64 0, .string ⟨#[]⟩, .bool false, .int .i64 e])] : List (Nat × TypeId × Array Value)) W)) (E := (fun _ _ => True)) [2, 3] [(1, Is (.pointer (some ⟨w.heap.size, 0, none⟩))), (3, Is (.pointer (some ⟨w.heap.size + 2, 0, none⟩))), (2, Is (.pointer (some ⟨w.heap.size + 1, 0, none⟩)))] [(38, Is (.agg #[.int .i64 0, .int .i64 0])), (39, Is (.agg #[.int .i64 4, .int .i64 0, .int .i64 0, .string ⟨#[]⟩, .bool false, .int .i64 e])), (4, Is (.bool false))]
    [.op [] none, .op [1] none, .phase 0 [2, 38] [], .phase 1 [3, 39] [], .op [] none] (by as_aux_lemma => kernel_rfl) ?_ ?_ ?_ ?_ ?_ ⟨stable_is _ _, stable_is _ _, stable_is _ _, stable_is _ _, stable_is _ _, stable_is _ _, trivial⟩ ?_ (HB.out.drew) ?_ ?_
  · as_aux_lemma => kernel_rfl
  · as_aux_lemma => kernel_rfl
  · as_aux_lemma => kernel_rfl
  · as_aux_lemma => kernel_rfl
  · as_aux_lemma => kernel_rfl
  · exact ⟨rfl, rfl, rfl, trivial⟩
  · refine ⟨?_, ?_, ?_, ?_, ?_, trivial⟩
    · as_aux_lemma =>
        intro vals a W hS hL
        clear hL
        go_simp
        exact ⟨⟨fun d hd => by injection hd with hd; subst hd; rfl, fun h => by cases h⟩, hS, trivial⟩
    · as_aux_lemma =>
        intro vals a W hS hL
        have e1 : a.tmps.getD 1 undef = .pointer (some ⟨w.heap.size, 0, none⟩) := hL.1
        clear hL
        have kb : Bk W (w.heap.size) 29 #[.int .i64 4, .int .i64 0, .int .i64 0, .string ⟨#[]⟩, .bool false, .int .i64 e] := hS.bk 2 rfl rfl
        have f0 := kb.cell 0
        have f1 := kb.cell 1
        have f2 := kb.cell 2
        have f3 := kb.cell 3
        have f4 := kb.cell 4
        have f5 := kb.cell 5
        clear kb
        go_simp
        exact ⟨⟨fun d hd => by injection hd with hd; subst hd; rfl, fun h => by cases h⟩, hS, trivial⟩
    · as_aux_lemma =>
        intro a W vals hv hS hL hp
        have e2 : a.tmps.getD 2 undef = .pointer (some ⟨w.heap.size + 1, 0, none⟩) := hL.1
        have e38 : a.tmps.getD 38 undef = .agg #[.int .i64 0, .int .i64 0] := hL.2.1
        clear hL
        match vals, hv, hS with
        | [], _, hS =>
          have hS2 : SX w 3 ([.put 1 #[.int .i64 0, .int .i64 0], .put 0 #[.int .i64 4, .int .i64 0, .int .i64 0, .string ⟨#[]⟩, .bool false, .int .i64 e]] : List Stp) [] ([(w.heap.size + 2, 29, #[.int .i64 0, .int .i64 0, .int .i64 0, .string ⟨#[]⟩, .bool false, .int .i64 0]), (w.heap.size + 1, 27, #[.int .i64 0, .int .i64 0]), (w.heap.size, 29, #[.int .i64 4, .int .i64 0, .int .i64 0, .string ⟨#[]⟩, .bool false, .int .i64 e])] : List (Nat × TypeId × Array Value)) W := hS
          clear hS
          have hB0 := hS2
          have hB : SB w 3 ([(w.heap.size + 2, 29, #[.int .i64 0, .int .i64 0, .int .i64 0, .string ⟨#[]⟩, .bool false, .int .i64 0]), (w.heap.size + 1, 27, #[.int .i64 0, .int .i64 0]), (w.heap.size, 29, #[.int .i64 4, .int .i64 0, .int .i64 0, .string ⟨#[]⟩, .bool false, .int .i64 e])] : List (Nat × TypeId × Array Value)) W := hB0
          clear hB0
          rw [Array.getD_eq_getD_getElem?] at e38
          have kz := hB.box (i := 1) rfl
          have z0 := kz.frozen 0
          have q0 := kz.cell 0
          have z1 := kz.frozen 1
          have q1 := kz.cell 1
          have hge : w.heap.size ≤ (w.heap.size + 1) := by omega
          have hne : ∀ qx ∈ butBox ([(w.heap.size + 2, 29, #[.int .i64 0, .int .i64 0, .int .i64 0, .string ⟨#[]⟩, .bool false, .int .i64 0]), (w.heap.size + 1, 27, #[.int .i64 0, .int .i64 0]), (w.heap.size, 29, #[.int .i64 4, .int .i64 0, .int .i64 0, .string ⟨#[]⟩, .bool false, .int .i64 e])] : List (Nat × TypeId × Array Value)) 1, qx.1 ≠ (w.heap.size + 1) := by simp [butBox] <;> omega
          have hF := hB.put2 (i := 1) rfl hge hne (.int .i64 0 : Value) (.int .i64 0 : Value)
          clear kz hB hne hge
          go_simp
          exact ⟨hF, trivial, trivial⟩
    · skip
      intro a W vals hv hS hL hp
      have e3 : a.tmps.getD 3 undef = .pointer (some ⟨w.heap.size + 2, 0, none⟩) := hL.1
      have e39 : a.tmps.getD 39 undef = .agg #[.int .i64 4, .int .i64 0, .int .i64 0, .string ⟨#[]⟩, .bool false, .int .i64 e] := hL.2.1
      clear hL
      match vals, hv, hS with
      | [v0], _, hS =>
        have hS2 : SX w 3 ([.put 1 #[.int .i64 0, .int .i64 0], .put 0 #[.int .i64 4, .int .i64 0, .int .i64 0, .string ⟨#[]⟩, .bool false, .int .i64 e]] : List Stp) [v0] ([(w.heap.size + 2, 29, #[.int .i64 0, .int .i64 0, .int .i64 0, .string ⟨#[]⟩, .bool false, .int .i64 0]), (w.heap.size + 1, 27, #[.int .i64 0, .int .i64 0]), (w.heap.size, 29, #[.int .i64 4, .int .i64 0, .int .i64 0, .string ⟨#[]⟩, .bool false, .int .i64 e])] : List (Nat × TypeId × Array Value)) W := hS
        clear hS
        have hB0 := hS2
        have hB : SB w 3 ([(w.heap.size + 2, 29, #[.int .i64 0, .int .i64 0, .int .i64 0, .string ⟨#[]⟩, .bool false, .int .i64 0]), (w.heap.size + 1, 27, #[.int .i64 0, .int .i64 0]), (w.heap.size, 29, #[.int .i64 4, .int .i64 0, .int .i64 0, .string ⟨#[]⟩, .bool false, .int .i64 e])] : List (Nat × TypeId × Array Value)) W := hB0
        clear hB0
        rw [Array.getD_eq_getD_getElem?] at e39
        have kz := hB.box (i := 0) rfl
        have z0 := kz.frozen 0
        have q0 := kz.cell 0
        have z1 := kz.frozen 1
        have q1 := kz.cell 1
        have z2 := kz.frozen 2
        have q2 := kz.cell 2
        have z3 := kz.frozen 3
        have q3 := kz.cell 3
        have z4 := kz.frozen 4
        have q4 := kz.cell 4
        have z5 := kz.frozen 5
        have q5 := kz.cell 5
        have hge : w.heap.size ≤ (w.heap.size + 2) := by omega
        have hne : ∀ qx ∈ butBox ([(w.heap.size + 2, 29, #[.int .i64 0, .int .i64 0, .int .i64 0, .string ⟨#[]⟩, .bool false, .int .i64 0]), (w.heap.size + 1, 27, #[.int .i64 0, .int .i64 0]), (w.heap.size, 29, #[.int .i64 4, .int .i64 0, .int .i64 0, .string ⟨#[]⟩, .bool false, .int .i64 e])] : List (Nat × TypeId × Array Value)) 0, qx.1 ≠ (w.heap.size + 2) := by simp [butBox] <;> omega
        have hF := hB.put6 (i := 0) rfl hge hne (.int .i64 4 : Value) (.int .i64 0 : Value) (.int .i64 0 : Value) (.string ⟨#[]⟩ : Value) (.bool false : Value) (.int .i64 e : Value)
        clear kz hB hne hge
        go_simp
        exact ⟨hF, trivial, trivial⟩
    · as_aux_lemma =>
        intro vals a W hS hL
        clear hL
        go_simp
        exact ⟨⟨fun d hd => by injection hd with hd; subst hd; rfl, fun h => by cases h⟩, hS, trivial⟩
  · intro a W' vals hd hsz hT hF hv hP hS
    obtain ⟨v0, v1, rfl⟩ : ∃ v0 v1, vals = [v0, v1] := by
      match vals, hv with
      | [v0, v1], _ => exact ⟨v0, v1, rfl⟩
    have hS2 : SX w 3 ([.put 1 #[.int .i64 0, .int .i64 0], .put 0 #[.int .i64 4, .int .i64 0, .int .i64 0, .string ⟨#[]⟩, .bool false, .int .i64 e]] : List Stp) [v0, v1] ([(w.heap.size + 2, 29, #[.int .i64 0, .int .i64 0, .int .i64 0, .string ⟨#[]⟩, .bool false, .int .i64 0]), (w.heap.size + 1, 27, #[.int .i64 0, .int .i64 0]), (w.heap.size, 29, #[.int .i64 4, .int .i64 0, .int .i64 0, .string ⟨#[]⟩, .bool false, .int .i64 e])] : List (Nat × TypeId × Array Value)) W' := hS
    clear hS
    have hB0 := hS2
    have hB : SB w 3 ([(w.heap.size + 2, 29, #[.int .i64 4, .int .i64 0, .int .i64 0, .string ⟨#[]⟩, .bool false, .int .i64 e]), (w.heap.size + 1, 27, #[.int .i64 0, .int .i64 0]), (w.heap.size, 29, #[.int .i64 4, .int .i64 0, .int .i64 0, .string ⟨#[]⟩, .bool false, .int .i64 e])] : List (Nat × TypeId × Array Value)) W' := hB0
    clear hB0
    have kz0 := hB.box (i := 0) rfl
    have r0_0 := kz0.cell 0
    have r0_1 := kz0.cell 1
    have r0_2 := kz0.cell 2
    have r0_3 := kz0.cell 3
    have r0_4 := kz0.cell 4
    have r0_5 := kz0.cell 5
    clear kz0
    have kz1 := hB.box (i := 1) rfl
    have r1_0 := kz1.cell 0
    have r1_1 := kz1.cell 1
    clear kz1
    have e2 : a.tmps.getD 2 undef = .pointer (some ⟨w.heap.size + 1, 0, none⟩) := hT 2 (by simp)
    have e3 : a.tmps.getD 3 undef = .pointer (some ⟨w.heap.size + 2, 0, none⟩) := hT 3 (by simp)
    have e4 : a.tmps.getD 4 undef = .bool false := hT 4 (by simp)
    clear hT hF hP
    go_wp2
    refine bodyPost_ret (v := .tuple #[.agg #[.int .i64 0, .int .i64 0], .agg #[.int .i64 4, .int .i64 0, .int .i64 0, .string ⟨#[]⟩, .bool false, .int .i64 e], .bool false]) ?_ hd ⟨rfl, hB.bel⟩
    rw [Array.getD_eq_getD_getElem?] at e2 e3 e4
    simp [results, Tryz.results10, go_sem, e2, e3, e4, r0_0, r0_1, r0_2, r0_3, r0_4, r0_5, r1_0, r1_1]
set_option maxRecDepth 20000 in
theorem bNumber_str {w : World} {t : ByteArray} {m s : Int} (HP : ∀ W : World, Calls Tryz.prog 33 #[.string t] W fun x w' => x = .returned (.tuple #[.agg #[.int .i64 m, .int .i64 s], .int .i64 0]) ∧ Below W.heap.size W w') :
    Calls Tryz.prog 10 #[.agg #[.int .i64 2, .int .i64 0, .int .i64 0, .string t, .bool false, .int .i64 0]] w fun x w' => x = .returned (.tuple #[.agg #[.int .i64 m, .int .i64 s], .agg #[.int .i64 0, .int .i64 0, .int .i64 0, .string ⟨#[]⟩, .bool false, .int .i64 0], .bool true]) ∧ Below w.heap.size w w' := by
  have H1 := Lib.hid HP
  clear HP
  have HB := Lib.hid (((sb1 w 29 #[.int .i64 2, .int .i64 0, .int .i64 0, .string t, .bool false, .int .i64 0]).push (by simp) 27 #[.int .i64 0, .int .i64 0]).push (by simp) 29 #[.int .i64 0, .int .i64 0, .int .i64 0, .string ⟨#[]⟩, .bool false, .int .i64 0])
  go_enter Tryz.func10, Tryz.ntmps10
  go_wp2_with fail
  refine (H1.out _).mono ?_
  rintro x w1 ⟨rfl, hb⟩
  have hz := (HB.out.call hb).size
  have hB := (HB.out.call hb).alloc 27 #[.int .i64 m, .int .i64 s]
  have hF1 := hB.put2 (i := 2) rfl (by omega) (by simp [butBox] <;> omega) (.int .i64 m : Value) (.int .i64 s : Value)
  have hF := hF1.put6 (i := 1) rfl (by omega) (by simp [butBox, setBox] <;> omega) (.int .i64 0 : Value) (.int .i64 0 : Value) (.int .i64 0 : Value) (.string ⟨#[]⟩ : Value) (.bool false : Value) (.int .i64 0 : Value)
  have hbel := hF.bel
  have kr := hB.box (i := 1) rfl
  have cr0 := kr.cell 0
  have zr0 := kr.frozen 0
  have cr1 := kr.cell 1
  have zr1 := kr.frozen 1
  have cr2 := kr.cell 2
  have zr2 := kr.frozen 2
  have cr3 := kr.cell 3
  have zr3 := kr.frozen 3
  have cr4 := kr.cell 4
  have zr4 := kr.frozen 4
  have cr5 := kr.cell 5
  have zr5 := kr.frozen 5
  clear kr
  have kd := hB.box (i := 2) rfl
  have cd0 := kd.cell 0
  have zd0 := kd.frozen 0
  have cd1 := kd.cell 1
  have zd1 := kd.frozen 1
  clear kd
  have kn := hB.box (i := 0) rfl
  have cn0 := kn.cell 0
  have zn0 := kn.frozen 0
  have cn1 := kn.cell 1
  have zn1 := kn.frozen 1
  clear kn
  clear hb HB H1 hB hF hF1
  go_wp2
  refine bodyPost_ret (v := .tuple #[.agg #[.int .i64 m, .int .i64 s], .agg #[.int .i64 0, .int .i64 0, .int .i64 0, .string ⟨#[]⟩, .bool false, .int .i64 0], .bool true]) ?_ rfl ⟨rfl, hbel⟩
  simp [results, Tryz.results10, go_sem, cr0, cr1, cr2, cr3, cr4, cr5, cd0, cd1]
set_option maxRecDepth 20000 in
theorem bNumber_none {w : World} {t : ByteArray} {m s e : Int} (he : (e != 0) = true) (HP : ∀ W : World, Calls Tryz.prog 33 #[.string t] W fun x w' => x = .returned (.tuple #[.agg #[.int .i64 m, .int .i64 s], .int .i64 e]) ∧ Below W.heap.size W w') :
    Calls Tryz.prog 10 #[.agg #[.int .i64 2, .int .i64 0, .int .i64 0, .string t, .bool false, .int .i64 0]] w fun x w' => x = .returned (.tuple #[.agg #[.int .i64 0, .int .i64 0], .agg #[.int .i64 4, .int .i64 0, .int .i64 0, .string ⟨#[]⟩, .bool false, .int .i64 15], .bool false]) ∧ Below w.heap.size w w' := by
  have H1 := Lib.hid HP
  clear HP
  have HX := Lib.hid (fun W : World => bFault_any (w := W) 15)
  have HB := Lib.hid (((sb1 w 29 #[.int .i64 2, .int .i64 0, .int .i64 0, .string t, .bool false, .int .i64 0]).push (by simp) 27 #[.int .i64 0, .int .i64 0]).push (by simp) 29 #[.int .i64 0, .int .i64 0, .int .i64 0, .string ⟨#[]⟩, .bool false, .int .i64 0])
  go_enter Tryz.func10, Tryz.ntmps10
  go_wp2_with fail
  refine (H1.out _).mono ?_
  rintro x w1 ⟨rfl, hb⟩
  have hz := (HB.out.call hb).size
  have HB2 := Lib.hid ((HB.out.call hb).alloc 27 #[.int .i64 m, .int .i64 s])
  clear hb HB H1
  have HB := HB2
  clear HB2
  go_wp2_with fail
  refine (HX.out _).mono ?_
  rintro e w9 ⟨rfl, hb⟩
  have hB := HB.out.call hb
  have hF1 := hB.put2 (i := 2) rfl (by omega) (by simp [butBox] <;> omega) (.int .i64 0 : Value) (.int .i64 0 : Value)
  have hF := hF1.put6 (i := 1) rfl (by omega) (by simp [butBox, setBox] <;> omega) (.int .i64 4 : Value) (.int .i64 0 : Value) (.int .i64 0 : Value) (.string ⟨#[]⟩ : Value) (.bool false : Value) (.int .i64 15 : Value)
  have hbel := hF.bel
  have kr := hB.box (i := 1) rfl
  have cr0 := kr.cell 0
  have zr0 := kr.frozen 0
  have cr1 := kr.cell 1
  have zr1 := kr.frozen 1
  have cr2 := kr.cell 2
  have zr2 := kr.frozen 2
  have cr3 := kr.cell 3
  have zr3 := kr.frozen 3
  have cr4 := kr.cell 4
  have zr4 := kr.frozen 4
  have cr5 := kr.cell 5
  have zr5 := kr.frozen 5
  clear kr
  have kd := hB.box (i := 2) rfl
  have cd0 := kd.cell 0
  have zd0 := kd.frozen 0
  have cd1 := kd.cell 1
  have zd1 := kd.frozen 1
  clear kd
  clear hb HB HX hB hF hF1
  go_wp2
  refine bodyPost_ret (v := .tuple #[.agg #[.int .i64 0, .int .i64 0], .agg #[.int .i64 4, .int .i64 0, .int .i64 0, .string ⟨#[]⟩, .bool false, .int .i64 15], .bool false]) ?_ rfl ⟨rfl, hbel⟩
  simp [results, Tryz.results10, go_sem, cr0, cr1, cr2, cr3, cr4, cr5, cd0, cd1]
end Go.Proofs.YtmbjmgmnicacpaaGreatDoor
