/- cashbooklaw8.RefNames by its contract: it returns true. Condition: strconv.Itoa keeps its contract. -/
import Derived.Test.YtgjijjdpkmdcgaaDoorKnown8
namespace Go.Proofs.YtgjijjdpkmdcgaaDoor
open Go.RowKit

theorem colW_lt {c c' : Nat} (h : ¬ colW c' ≤ colW c) : c < c' := by unfold colW at h; split at h <;> split at h <;> omega
set_option maxRecDepth 20000 in
set_option maxHeartbeats 2000000 in
theorem names_bad {w : World} (HV : Tens w) (ar ac b bc : Int) (h : gdB ar ac = false ∨ gdB b bc = false) :
    Calls Tryd.prog 8 #[.agg #[.int .i64 ar, .int .i64 ac], .agg #[.int .i64 b, .int .i64 bc]] w fun e w' => e = .returned (.bool true) ∧ Below w.heap.size w w' := by
  have HK : Hid (∀ W : World, Below w.heap.size w W → Calls Tryd.prog 9 #[] W fun e w' => e = .returned (.bool true) ∧ Below W.heap.size W w') := Lib.hid (fun W hb => known8_any (HV.below hb))
  have HG1 : Hid (∀ W : World, Calls Tryd.prog 13 #[.agg #[.int .i64 ar, .int .i64 ac]] W fun e w' => e = .returned (.bool (gdB ar ac)) ∧ Below W.heap.size W w') := Lib.hid (fun W => good_any ar ac)
  have HG2 : Hid (∀ W : World, Calls Tryd.prog 13 #[.agg #[.int .i64 b, .int .i64 bc]] W fun e w' => e = .returned (.bool (gdB b bc)) ∧ Below W.heap.size W w') := Lib.hid (fun W => good_any b bc)
  have HB : Hid (SB w 2 ([(w.heap.size + 1, 25, #[.int .i64 b, .int .i64 bc]), (w.heap.size, 25, #[.int .i64 ar, .int .i64 ac])] : List (Nat × TypeId × Array Value)) ((w.alloc (.cells #[.int .i64 ar, .int .i64 ac] 25)).alloc (.cells #[.int .i64 b, .int .i64 bc] 25))) := Lib.hid ((sb1 w 25 #[.int .i64 ar, .int .i64 ac]).push (by simp) 25 #[.int .i64 b, .int .i64 bc])
  clear HV
  cases ha : gdB ar ac
  · rw [ha] at HG1
    clear ha h
    go_enter Tryd.func8, Tryd.ntmps8
    go_wp2_with fail
    refine (HK.out _ HB.out.bel).mono ?_
    rintro e w1 ⟨rfl, hb⟩
    have hB := HB.out.call hb
    clear hb HB
    have HB := Lib.hid hB
    clear hB
    have ka := HB.out.box (i := 1) rfl
    have ca0 := ka.cell 0
    have ca1 := ka.cell 1
    clear ka
    go_wp2_with fail
    refine (HG1.out _).mono ?_
    rintro e w2 ⟨rfl, hb⟩
    have hB := HB.out.call hb
    clear hb HB
    have HB := Lib.hid hB
    clear hB
    clear ca0 ca1
    clear HK HG1 HG2
    have hbel := HB.out.bel
    go_wp2
    go_ret
    exact ⟨rfl, hbel⟩
  · have hb2 : gdB b bc = false := by
      rcases h with h | h
      · rw [ha] at h; cases h
      · exact h
    rw [ha] at HG1
    rw [hb2] at HG2
    clear ha hb2 h
    go_enter Tryd.func8, Tryd.ntmps8
    go_wp2_with fail
    refine (HK.out _ HB.out.bel).mono ?_
    rintro e w1 ⟨rfl, hb⟩
    have hB := HB.out.call hb
    clear hb HB
    have HB := Lib.hid hB
    clear hB
    have ka := HB.out.box (i := 1) rfl
    have ca0 := ka.cell 0
    have ca1 := ka.cell 1
    clear ka
    go_wp2_with fail
    refine (HG1.out _).mono ?_
    rintro e w2 ⟨rfl, hb⟩
    have hB := HB.out.call hb
    clear hb HB
    have HB := Lib.hid hB
    clear hB
    clear ca0 ca1
    have kb := HB.out.box (i := 0) rfl
    have cb0 := kb.cell 0
    have cb1 := kb.cell 1
    clear kb
    go_wp2_with fail
    refine (HG2.out _).mono ?_
    rintro e w3 ⟨rfl, hb⟩
    have hB := HB.out.call hb
    clear hb HB
    have HB := Lib.hid hB
    clear hB
    clear cb0 cb1 HK HG1 HG2
    have hbel := HB.out.bel
    go_wp2
    go_ret
    exact ⟨rfl, hbel⟩

set_option maxRecDepth 20000 in
set_option maxHeartbeats 2000000 in
theorem names_eq {w : World} (HV : Tens w) (ar ac : Nat) (h0 : ar < 65536) (h1 : ac < 256) :
    Calls Tryd.prog 8 #[.agg #[.int .i64 (ar : Nat), .int .i64 (ac : Nat)], .agg #[.int .i64 (ar : Nat), .int .i64 (ac : Nat)]] w fun e w' => e = .returned (.bool true) ∧ Below w.heap.size w w' := by
  have HK : Hid (∀ W : World, Below w.heap.size w W → Calls Tryd.prog 9 #[] W fun e w' => e = .returned (.bool true) ∧ Below W.heap.size W w') := Lib.hid (fun W hb => known8_any (HV.below hb))
  have HG1 : Hid (∀ W : World, Calls Tryd.prog 13 #[.agg #[.int .i64 (ar : Nat), .int .i64 (ac : Nat)]] W fun e w' => e = .returned (.bool true) ∧ Below W.heap.size W w') := Lib.hid (fun W => by
    have := good_any (w := W) ar ac
    rw [gd_nat h0 h1] at this
    exact this)
  have HT1 : Hid (∀ W : World, Below w.heap.size w W → Calls Tryd.prog 29 #[.agg #[.int .i64 (ar : Nat), .int .i64 (ac : Nat)]] W fun e w' => e = .returned (sL (wordL ar ac)) ∧ Below W.heap.size W w') := Lib.hid (fun W hb => text_any (HV.below hb) ar ac h0 h1)
  have HA1 : Hid (∀ W : World, Calls Tryd.prog 31 #[sL (wordL ar ac)] W fun e w' => e = .returned (.int .i64 (colW ac : Nat)) ∧ w' = W) := Lib.hid (fun W => by
    have := ahead_any (w := W) (wordL ar ac) (by have := colL_len ac; have := dig_len (ar + 1); unfold wordL; rw [List.length_append]; omega)
    rw [ahead_word ar ac h1] at this
    exact this)
  generalize wordL ar ac = X at *
  generalize colW ac = n at *
  unfold sL at *
  clear HV
  have HB : Hid (SB w 2 ([(w.heap.size + 1, 25, #[.int .i64 (ar : Nat), .int .i64 (ac : Nat)]), (w.heap.size, 25, #[.int .i64 (ar : Nat), .int .i64 (ac : Nat)])] : List (Nat × TypeId × Array Value)) ((w.alloc (.cells #[.int .i64 (ar : Nat), .int .i64 (ac : Nat)] 25)).alloc (.cells #[.int .i64 (ar : Nat), .int .i64 (ac : Nat)] 25))) := Lib.hid ((sb1 w 25 #[.int .i64 (ar : Nat), .int .i64 (ac : Nat)]).push (by simp) 25 #[.int .i64 (ar : Nat), .int .i64 (ac : Nat)])
  obtain ⟨sx, hx⟩ : ∃ s : ByteArray, (⟨X.toArray⟩ : ByteArray) = s := ⟨_, rfl⟩
  rw [hx] at HT1 HA1
  clear hx
  go_enter Tryd.func8, Tryd.ntmps8
  go_wp2_with fail
  refine (HK.out _ HB.out.bel).mono ?_
  rintro e w1 ⟨rfl, hb⟩
  have hB := HB.out.call hb
  clear hb HB
  have HB := Lib.hid hB
  clear hB
  have ka := HB.out.box (i := 1) rfl
  have ca0 := ka.cell 0
  have ca1 := ka.cell 1
  clear ka
  go_wp2_with fail
  refine (HG1.out _).mono ?_
  rintro e w2 ⟨rfl, hb⟩
  have hB := HB.out.call hb
  clear hb HB
  have HB := Lib.hid hB
  clear hB
  clear ca0 ca1
  have kb := HB.out.box (i := 0) rfl
  have cb0 := kb.cell 0
  have cb1 := kb.cell 1
  clear kb
  go_wp2_with fail
  refine (HG1.out _).mono ?_
  rintro e w3 ⟨rfl, hb⟩
  have hB := HB.out.call hb
  clear hb HB
  have HB := Lib.hid hB
  clear hB
  clear cb0 cb1 HK HG1
  go_wp2_with fail
  refine wp_region_phases (S := (fun vals W => SX w 2 ([] : List Stp) vals ([(w.heap.size + 1, 25, #[.int .i64 (ar : Nat), .int .i64 (ac : Nat)]), (w.heap.size, 25, #[.int .i64 (ar : Nat), .int .i64 (ac : Nat)])] : List (Nat × TypeId × Array Value)) W)) (E := (fun _ _ => True)) [] [(2, Is (.pointer (some ⟨w.heap.size, 0, none⟩))), (3, Is (.pointer (some ⟨w.heap.size + 1, 0, none⟩)))] [(19, Is (.agg #[.int .i64 (ar : Nat), .int .i64 (ac : Nat)])), (20, Is (.string sx)), (21, Is (.agg #[.int .i64 (ar : Nat), .int .i64 (ac : Nat)])), (22, Is (.string sx)), (5, Is (.string sx)), (6, Is (.string sx))]
    [.op [2] none, .op [19] none, .op [3] none, .op [21] none, .op [20] none, .op [22] none] (by as_aux_lemma => kernel_rfl) ?_ ?_ ?_ ?_ ?_ ⟨stable_is _ _, stable_is _ _, stable_is _ _, stable_is _ _, stable_is _ _, stable_is _ _, stable_is _ _, stable_is _ _, trivial⟩ ?_ (HB.out.drew) ?_ ?_
  · as_aux_lemma => kernel_rfl
  · as_aux_lemma => kernel_rfl
  · as_aux_lemma => kernel_rfl
  · as_aux_lemma => kernel_rfl
  · as_aux_lemma => kernel_rfl
  · exact ⟨rfl, rfl, trivial⟩
  · refine ⟨?_, ?_, ?_, ?_, ?_, ?_, trivial⟩
    · as_aux_lemma =>
        intro vals a W hS hL
        have e2 : a.tmps.getD 2 undef = .pointer (some ⟨w.heap.size, 0, none⟩) := hL.1
        clear hL
        have kb : Bk W (w.heap.size) 25 #[.int .i64 (ar : Nat), .int .i64 (ac : Nat)] := hS.bk 1 rfl rfl
        have f0 := kb.cell 0
        have f1 := kb.cell 1
        clear kb
        go_simp
        exact ⟨⟨fun d hd => by injection hd with hd; subst hd; rfl, fun h => by cases h⟩, hS, trivial⟩
    · as_aux_lemma =>
        intro vals a W hS hL
        have e19 : a.tmps.getD 19 undef = .agg #[.int .i64 (ar : Nat), .int .i64 (ac : Nat)] := hL.1
        clear hL
        go_simp
        refine (HT1.out _ (SX.bel hS)).mono ?_
        rintro e W' ⟨rfl, hb⟩
        exact ⟨_, rfl, ⟨fun d hd => by injection hd with hd; subst hd; rfl, fun h => by cases h⟩, hS.call hb, trivial⟩
    · as_aux_lemma =>
        intro vals a W hS hL
        have e3 : a.tmps.getD 3 undef = .pointer (some ⟨w.heap.size + 1, 0, none⟩) := hL.1
        clear hL
        have kb : Bk W (w.heap.size + 1) 25 #[.int .i64 (ar : Nat), .int .i64 (ac : Nat)] := hS.bk 0 rfl rfl
        have f0 := kb.cell 0
        have f1 := kb.cell 1
        clear kb
        go_simp
        exact ⟨⟨fun d hd => by injection hd with hd; subst hd; rfl, fun h => by cases h⟩, hS, trivial⟩
    · as_aux_lemma =>
        intro vals a W hS hL
        have e21 : a.tmps.getD 21 undef = .agg #[.int .i64 (ar : Nat), .int .i64 (ac : Nat)] := hL.1
        clear hL
        go_simp
        refine (HT1.out _ (SX.bel hS)).mono ?_
        rintro e W' ⟨rfl, hb⟩
        exact ⟨_, rfl, ⟨fun d hd => by injection hd with hd; subst hd; rfl, fun h => by cases h⟩, hS.call hb, trivial⟩
    · as_aux_lemma =>
        intro vals a W hS hL
        have e20 : a.tmps.getD 20 undef = .string sx := hL.1
        clear hL
        go_simp
        exact ⟨⟨fun d hd => by injection hd with hd; subst hd; rfl, fun h => by cases h⟩, hS, trivial⟩
    · as_aux_lemma =>
        intro vals a W hS hL
        have e22 : a.tmps.getD 22 undef = .string sx := hL.1
        clear hL
        go_simp
        exact ⟨⟨fun d hd => by injection hd with hd; subst hd; rfl, fun h => by cases h⟩, hS, trivial⟩
  · intro a W' vals hd hsz hT hF hv hP hS
    obtain rfl : vals = [] := List.eq_nil_of_length_eq_zero hv
    have hS2 : SX w 2 ([] : List Stp) [] ([(w.heap.size + 1, 25, #[.int .i64 (ar : Nat), .int .i64 (ac : Nat)]), (w.heap.size, 25, #[.int .i64 (ar : Nat), .int .i64 (ac : Nat)])] : List (Nat × TypeId × Array Value)) W' := hS
    clear hS
    have hB0 := hS2
    have hB : SB w 2 ([(w.heap.size + 1, 25, #[.int .i64 (ar : Nat), .int .i64 (ac : Nat)]), (w.heap.size, 25, #[.int .i64 (ar : Nat), .int .i64 (ac : Nat)])] : List (Nat × TypeId × Array Value)) W' := hB0
    clear hB0
    have e2 : a.tmps.getD 2 undef = .pointer (some ⟨w.heap.size, 0, none⟩) := hT 2 (by simp)
    have e3 : a.tmps.getD 3 undef = .pointer (some ⟨w.heap.size + 1, 0, none⟩) := hT 3 (by simp)
    have e5 : a.tmps.getD 5 undef = .string sx := hT 5 (by simp)
    have e6 : a.tmps.getD 6 undef = .string sx := hT 6 (by simp)
    clear hT hF hP
    rw [act_lit 44 a hd hsz]
    simp only [List.range, List.range.loop, List.map, e2, e3, e5, e6]
    clear hd hsz e2 e3 e5 e6
    have HB4 := Lib.hid hB
    clear HB hB HT1
    have ka := HB4.out.box (i := 1) rfl
    have ca0 := ka.cell 0
    have ca1 := ka.cell 1
    clear ka
    have kb := HB4.out.box (i := 0) rfl
    have cb0 := kb.cell 0
    have cb1 := kb.cell 1
    clear kb
    go_wp2_with fail
    refine (HA1.out _).mono ?_
    rintro e w5 ⟨rfl, rfl⟩
    go_wp2_with fail
    refine (HA1.out _).mono ?_
    rintro e w6 ⟨rfl, rfl⟩
    clear HA1
    have hbel := HB4.out.bel
    clear HB4
    go_wp2
    go_ret
    exact ⟨rfl, hbel⟩

set_option maxRecDepth 20000 in
set_option maxHeartbeats 2000000 in
theorem names_ne {w : World} (HV : Tens w) (ar ac b bc : Nat) (h0 : ar < 65536) (h1 : ac < 256) (h2 : b < 65536) (h3 : bc < 256) (hne : ¬ (ar = b ∧ ac = bc)) :
    Calls Tryd.prog 8 #[.agg #[.int .i64 (ar : Nat), .int .i64 (ac : Nat)], .agg #[.int .i64 (b : Nat), .int .i64 (bc : Nat)]] w fun e w' => e = .returned (.bool true) ∧ Below w.heap.size w w' := by
  have HK : Hid (∀ W : World, Below w.heap.size w W → Calls Tryd.prog 9 #[] W fun e w' => e = .returned (.bool true) ∧ Below W.heap.size W w') := Lib.hid (fun W hb => known8_any (HV.below hb))
  have HG1 : Hid (∀ W : World, Calls Tryd.prog 13 #[.agg #[.int .i64 (ar : Nat), .int .i64 (ac : Nat)]] W fun e w' => e = .returned (.bool true) ∧ Below W.heap.size W w') := Lib.hid (fun W => by
    have := good_any (w := W) ar ac
    rw [gd_nat h0 h1] at this
    exact this)
  have HG2 : Hid (∀ W : World, Calls Tryd.prog 13 #[.agg #[.int .i64 (b : Nat), .int .i64 (bc : Nat)]] W fun e w' => e = .returned (.bool true) ∧ Below W.heap.size W w') := Lib.hid (fun W => by
    have := good_any (w := W) b bc
    rw [gd_nat h2 h3] at this
    exact this)
  have HT1 : Hid (∀ W : World, Below w.heap.size w W → Calls Tryd.prog 29 #[.agg #[.int .i64 (ar : Nat), .int .i64 (ac : Nat)]] W fun e w' => e = .returned (sL (wordL ar ac)) ∧ Below W.heap.size W w') := Lib.hid (fun W hb => text_any (HV.below hb) ar ac h0 h1)
  have HT2 : Hid (∀ W : World, Below w.heap.size w W → Calls Tryd.prog 29 #[.agg #[.int .i64 (b : Nat), .int .i64 (bc : Nat)]] W fun e w' => e = .returned (sL (wordL b bc)) ∧ Below W.heap.size W w') := Lib.hid (fun W hb => text_any (HV.below hb) b bc h2 h3)
  have HA1 : Hid (∀ W : World, Calls Tryd.prog 31 #[sL (wordL ar ac)] W fun e w' => e = .returned (.int .i64 (colW ac : Nat)) ∧ w' = W) := Lib.hid (fun W => by
    have := ahead_any (w := W) (wordL ar ac) (by have := colL_len ac; have := dig_len (ar + 1); unfold wordL; rw [List.length_append]; omega)
    rw [ahead_word ar ac h1] at this
    exact this)
  have HA2 : Hid (∀ W : World, Calls Tryd.prog 31 #[sL (wordL b bc)] W fun e w' => e = .returned (.int .i64 (colW bc : Nat)) ∧ w' = W) := Lib.hid (fun W => by
    have := ahead_any (w := W) (wordL b bc) (by have := colL_len bc; have := dig_len (b + 1); unfold wordL; rw [List.length_append]; omega)
    rw [ahead_word b bc h3] at this
    exact this)
  have hst : ¬ wordL ar ac = wordL b bc := fun h => hne (word_inj h0 h1 h2 h3 h)
  have hcw : ¬ colW bc ≤ colW ac → ac < bc := colW_lt
  generalize wordL b bc = Y at *
  generalize colW bc = m at *
  generalize wordL ar ac = X at *
  generalize colW ac = n at *
  unfold sL at *
  clear HV
  have HB : Hid (SB w 2 ([(w.heap.size + 1, 25, #[.int .i64 (b : Nat), .int .i64 (bc : Nat)]), (w.heap.size, 25, #[.int .i64 (ar : Nat), .int .i64 (ac : Nat)])] : List (Nat × TypeId × Array Value)) ((w.alloc (.cells #[.int .i64 (ar : Nat), .int .i64 (ac : Nat)] 25)).alloc (.cells #[.int .i64 (b : Nat), .int .i64 (bc : Nat)] 25))) := Lib.hid ((sb1 w 25 #[.int .i64 (ar : Nat), .int .i64 (ac : Nat)]).push (by simp) 25 #[.int .i64 (b : Nat), .int .i64 (bc : Nat)])
  obtain ⟨sx, hx⟩ : ∃ s : ByteArray, (⟨X.toArray⟩ : ByteArray) = s := ⟨_, rfl⟩
  obtain ⟨sy, hy⟩ : ∃ s : ByteArray, (⟨Y.toArray⟩ : ByteArray) = s := ⟨_, rfl⟩
  have hst2 : ¬ sx = sy := fun h => hst (by
    rw [← hx, ← hy] at h
    have := congrArg (fun b : ByteArray => b.data.toList) h
    simpa using this)
  rw [hx] at HT1 HA1
  rw [hy] at HT2 HA2
  have hse : (sx.toList == sy.toList) = false := by
    rw [ByteArray.toList_eq, ByteArray.toList_eq]
    simp only [beq_eq_false_iff_ne, ne_eq]
    exact fun h => hst2 (Go.WideShapes.bytes_inj h)
  have HNE := Lib.hid hne
  clear hst hx hy hne
  go_enter Tryd.func8, Tryd.ntmps8
  go_wp2_with fail
  refine (HK.out _ HB.out.bel).mono ?_
  rintro e w1 ⟨rfl, hb⟩
  have hB := HB.out.call hb
  clear hb HB
  have HB := Lib.hid hB
  clear hB
  have ka := HB.out.box (i := 1) rfl
  have ca0 := ka.cell 0
  have ca1 := ka.cell 1
  clear ka
  go_wp2_with fail
  refine (HG1.out _).mono ?_
  rintro e w2 ⟨rfl, hb⟩
  have hB := HB.out.call hb
  clear hb HB
  have HB := Lib.hid hB
  clear hB
  clear ca0 ca1
  have kb := HB.out.box (i := 0) rfl
  have cb0 := kb.cell 0
  have cb1 := kb.cell 1
  clear kb
  go_wp2_with fail
  refine (HG2.out _).mono ?_
  rintro e w3 ⟨rfl, hb⟩
  have hB := HB.out.call hb
  clear hb HB
  have HB := Lib.hid hB
  clear hB
  clear cb0 cb1 HK HG1 HG2
  go_wp2_with fail
  refine wp_region_phases (S := (fun vals W => SX w 2 ([] : List Stp) vals ([(w.heap.size + 1, 25, #[.int .i64 (b : Nat), .int .i64 (bc : Nat)]), (w.heap.size, 25, #[.int .i64 (ar : Nat), .int .i64 (ac : Nat)])] : List (Nat × TypeId × Array Value)) W)) (E := (fun _ _ => True)) [] [(2, Is (.pointer (some ⟨w.heap.size, 0, none⟩))), (3, Is (.pointer (some ⟨w.heap.size + 1, 0, none⟩)))] [(19, Is (.agg #[.int .i64 (ar : Nat), .int .i64 (ac : Nat)])), (20, Is (.string sx)), (21, Is (.agg #[.int .i64 (b : Nat), .int .i64 (bc : Nat)])), (22, Is (.string sy)), (5, Is (.string sx)), (6, Is (.string sy))]
    [.op [2] none, .op [19] none, .op [3] none, .op [21] none, .op [20] none, .op [22] none] (by as_aux_lemma => kernel_rfl) ?_ ?_ ?_ ?_ ?_ ⟨stable_is _ _, stable_is _ _, stable_is _ _, stable_is _ _, stable_is _ _, stable_is _ _, stable_is _ _, stable_is _ _, trivial⟩ ?_ (HB.out.drew) ?_ ?_
  · as_aux_lemma => kernel_rfl
  · as_aux_lemma => kernel_rfl
  · as_aux_lemma => kernel_rfl
  · as_aux_lemma => kernel_rfl
  · as_aux_lemma => kernel_rfl
  · exact ⟨rfl, rfl, trivial⟩
  · refine ⟨?_, ?_, ?_, ?_, ?_, ?_, trivial⟩
    · as_aux_lemma =>
        intro vals a W hS hL
        have e2 : a.tmps.getD 2 undef = .pointer (some ⟨w.heap.size, 0, none⟩) := hL.1
        clear hL
        have kb : Bk W (w.heap.size) 25 #[.int .i64 (ar : Nat), .int .i64 (ac : Nat)] := hS.bk 1 rfl rfl
        have f0 := kb.cell 0
        have f1 := kb.cell 1
        clear kb
        go_simp
        exact ⟨⟨fun d hd => by injection hd with hd; subst hd; rfl, fun h => by cases h⟩, hS, trivial⟩
    · as_aux_lemma =>
        intro vals a W hS hL
        have e19 : a.tmps.getD 19 undef = .agg #[.int .i64 (ar : Nat), .int .i64 (ac : Nat)] := hL.1
        clear hL
        go_simp
        refine (HT1.out _ (SX.bel hS)).mono ?_
        rintro e W' ⟨rfl, hb⟩
        exact ⟨_, rfl, ⟨fun d hd => by injection hd with hd; subst hd; rfl, fun h => by cases h⟩, hS.call hb, trivial⟩
    · as_aux_lemma =>
        intro vals a W hS hL
        have e3 : a.tmps.getD 3 undef = .pointer (some ⟨w.heap.size + 1, 0, none⟩) := hL.1
        clear hL
        have kb : Bk W (w.heap.size + 1) 25 #[.int .i64 (b : Nat), .int .i64 (bc : Nat)] := hS.bk 0 rfl rfl
        have f0 := kb.cell 0
        have f1 := kb.cell 1
        clear kb
        go_simp
        exact ⟨⟨fun d hd => by injection hd with hd; subst hd; rfl, fun h => by cases h⟩, hS, trivial⟩
    · as_aux_lemma =>
        intro vals a W hS hL
        have e21 : a.tmps.getD 21 undef = .agg #[.int .i64 (b : Nat), .int .i64 (bc : Nat)] := hL.1
        clear hL
        go_simp
        refine (HT2.out _ (SX.bel hS)).mono ?_
        rintro e W' ⟨rfl, hb⟩
        exact ⟨_, rfl, ⟨fun d hd => by injection hd with hd; subst hd; rfl, fun h => by cases h⟩, hS.call hb, trivial⟩
    · as_aux_lemma =>
        intro vals a W hS hL
        have e20 : a.tmps.getD 20 undef = .string sx := hL.1
        clear hL
        go_simp
        exact ⟨⟨fun d hd => by injection hd with hd; subst hd; rfl, fun h => by cases h⟩, hS, trivial⟩
    · as_aux_lemma =>
        intro vals a W hS hL
        have e22 : a.tmps.getD 22 undef = .string sy := hL.1
        clear hL
        go_simp
        exact ⟨⟨fun d hd => by injection hd with hd; subst hd; rfl, fun h => by cases h⟩, hS, trivial⟩
  · intro a W' vals hd hsz hT hF hv hP hS
    obtain rfl : vals = [] := List.eq_nil_of_length_eq_zero hv
    have hS2 : SX w 2 ([] : List Stp) [] ([(w.heap.size + 1, 25, #[.int .i64 (b : Nat), .int .i64 (bc : Nat)]), (w.heap.size, 25, #[.int .i64 (ar : Nat), .int .i64 (ac : Nat)])] : List (Nat × TypeId × Array Value)) W' := hS
    clear hS
    have hB0 := hS2
    have hB : SB w 2 ([(w.heap.size + 1, 25, #[.int .i64 (b : Nat), .int .i64 (bc : Nat)]), (w.heap.size, 25, #[.int .i64 (ar : Nat), .int .i64 (ac : Nat)])] : List (Nat × TypeId × Array Value)) W' := hB0
    clear hB0
    have e2 : a.tmps.getD 2 undef = .pointer (some ⟨w.heap.size, 0, none⟩) := hT 2 (by simp)
    have e3 : a.tmps.getD 3 undef = .pointer (some ⟨w.heap.size + 1, 0, none⟩) := hT 3 (by simp)
    have e5 : a.tmps.getD 5 undef = .string sx := hT 5 (by simp)
    have e6 : a.tmps.getD 6 undef = .string sy := hT 6 (by simp)
    clear hT hF hP
    rw [act_lit 44 a hd hsz]
    simp only [List.range, List.range.loop, List.map, e2, e3, e5, e6]
    clear hd hsz e2 e3 e5 e6
    have HB4 := Lib.hid hB
    clear HB hB HT1 HT2
    by_cases hab : ar = b
    · have hab1 : ((ar : Int) == (b : Int)) = true := by simp; omega
      have hac : ((ac : Int) == (bc : Int)) = false := by have := HNE.out; simp; omega
      clear hab
      by_cases hnm : m ≤ n
      · have hnm' : (m : Int) ≤ (n : Int) := by omega
        clear hcw hnm
        have ka := HB4.out.box (i := 1) rfl
        have ca0 := ka.cell 0
        have ca1 := ka.cell 1
        clear ka
        have kb := HB4.out.box (i := 0) rfl
        have cb0 := kb.cell 0
        have cb1 := kb.cell 1
        clear kb
        go_wp2_with fail
        refine (HA1.out _).mono ?_
        rintro e w5 ⟨rfl, rfl⟩
        go_wp2_with fail
        refine (HA2.out _).mono ?_
        rintro e w6 ⟨rfl, rfl⟩
        clear HA1 HA2
        have hbel := HB4.out.bel
        clear HB4
        go_wp2
        go_ret
        exact ⟨rfl, hbel⟩
      · have hnm' : ¬ (m : Int) ≤ (n : Int) := by omega
        have hlt : (ac : Int) < (bc : Int) := by have := hcw hnm; omega
        clear hcw hnm
        have ka := HB4.out.box (i := 1) rfl
        have ca0 := ka.cell 0
        have ca1 := ka.cell 1
        clear ka
        have kb := HB4.out.box (i := 0) rfl
        have cb0 := kb.cell 0
        have cb1 := kb.cell 1
        clear kb
        go_wp2_with fail
        refine (HA1.out _).mono ?_
        rintro e w5 ⟨rfl, rfl⟩
        go_wp2_with fail
        refine (HA2.out _).mono ?_
        rintro e w6 ⟨rfl, rfl⟩
        clear HA1 HA2
        have hbel := HB4.out.bel
        clear HB4
        go_wp2
        go_ret
        exact ⟨rfl, hbel⟩
    · have hab1 : ((ar : Int) == (b : Int)) = false := by simp; omega
      clear hab
      by_cases hnm : m ≤ n
      · have hnm' : (m : Int) ≤ (n : Int) := by omega
        clear hcw hnm
        have ka := HB4.out.box (i := 1) rfl
        have ca0 := ka.cell 0
        have ca1 := ka.cell 1
        clear ka
        have kb := HB4.out.box (i := 0) rfl
        have cb0 := kb.cell 0
        have cb1 := kb.cell 1
        clear kb
        go_wp2_with fail
        refine (HA1.out _).mono ?_
        rintro e w5 ⟨rfl, rfl⟩
        go_wp2_with fail
        refine (HA2.out _).mono ?_
        rintro e w6 ⟨rfl, rfl⟩
        clear HA1 HA2
        have hbel := HB4.out.bel
        clear HB4
        go_wp2
        go_ret
        exact ⟨rfl, hbel⟩
      · have hnm' : ¬ (m : Int) ≤ (n : Int) := by omega
        have hlt : (ac : Int) < (bc : Int) := by have := hcw hnm; omega
        clear hcw hnm
        have ka := HB4.out.box (i := 1) rfl
        have ca0 := ka.cell 0
        have ca1 := ka.cell 1
        clear ka
        have kb := HB4.out.box (i := 0) rfl
        have cb0 := kb.cell 0
        have cb1 := kb.cell 1
        clear kb
        go_wp2_with fail
        refine (HA1.out _).mono ?_
        rintro e w5 ⟨rfl, rfl⟩
        go_wp2_with fail
        refine (HA2.out _).mono ?_
        rintro e w6 ⟨rfl, rfl⟩
        clear HA1 HA2
        have hbel := HB4.out.bel
        clear HB4
        go_wp2
        go_ret
        exact ⟨rfl, hbel⟩

theorem refNames_any {w : World} (HV : Tens w) (ar ac b bc : Int) :
    Calls Tryd.prog 8 #[.agg #[.int .i64 ar, .int .i64 ac], .agg #[.int .i64 b, .int .i64 bc]] w fun e w' => e = .returned (.bool true) ∧ Below w.heap.size w w' := by
  cases ha : gdB ar ac
  · exact names_bad HV ar ac b bc (.inl ha)
  · cases hb : gdB b bc
    · exact names_bad HV ar ac b bc (.inr hb)
    · obtain ⟨p0, p1, p2, p3⟩ := gdB_iff.1 ha
      obtain ⟨q0, q1, q2, q3⟩ := gdB_iff.1 hb
      obtain ⟨ar, rfl⟩ : ∃ n : Nat, ar = (n : Int) := ⟨ar.toNat, by omega⟩
      obtain ⟨ac, rfl⟩ : ∃ n : Nat, ac = (n : Int) := ⟨ac.toNat, by omega⟩
      obtain ⟨b, rfl⟩ : ∃ n : Nat, b = (n : Int) := ⟨b.toNat, by omega⟩
      obtain ⟨bc, rfl⟩ : ∃ n : Nat, bc = (n : Int) := ⟨bc.toNat, by omega⟩
      by_cases h : ar = b ∧ ac = bc
      · obtain ⟨rfl, rfl⟩ := h
        exact names_eq HV ar ac (by omega) (by omega)
      · exact names_ne HV ar ac b bc (by omega) (by omega) (by omega) (by omega) h
end Go.Proofs.YtgjijjdpkmdcgaaDoor
