/- cashbooklaw9.ValBlank by its contract: it returns true. Condition: utf8.ValidString keeps its contract; a text's length is one. -/
import Derived.Test.YtmbjmgmnicacpaaDoorKnown9
import Derived.Test.YtmbjmgmnicacpaaDoorV5
namespace Go.Proofs.YtmbjmgmnicacpaaDoor
open Go.RowKit

set_option maxRecDepth 20000 in
set_option maxHeartbeats 2000000 in
theorem blank_long {w : World} (k m s : Int) (t : ByteArray) (b : Bool) (e : Int) (h : 1000 < t.size) :
    Calls Tryd.prog 4 #[.agg #[.int .i64 k, .int .i64 m, .int .i64 s, .string t, .bool b, .int .i64 e]] w fun x w' => x = .returned (.bool true) ∧ Below w.heap.size w w' := by
  have HN := Lib.hid (fun W : World => known9_any (w := W))
  have h' : (1000 : Int) < ((t.size : Nat) : Int) := by omega
  clear h
  have HB := Lib.hid (sb1 w 25 #[.int .i64 k, .int .i64 m, .int .i64 s, .string t, .bool b, .int .i64 e])
  go_enter Tryd.func4, Tryd.ntmps4
  go_wp2_with fail
  refine (HN.out _).mono ?_
  rintro x w1 ⟨rfl, hb⟩
  have hB := HB.out.call hb
  clear hb HB
  have HB := Lib.hid hB
  clear hB
  have kv := HB.out.box (i := 0) rfl
  have cv0 := kv.cell 0
  have cv1 := kv.cell 1
  have cv2 := kv.cell 2
  have cv3 := kv.cell 3
  have cv4 := kv.cell 4
  have cv5 := kv.cell 5
  clear kv
  have hbel := HB.out.bel
  clear HB
  go_wp2
  go_ret
  exact ⟨rfl, hbel⟩

set_option maxRecDepth 20000 in
set_option maxHeartbeats 2000000 in
theorem blank_bad {w : World} (k m s : Int) (t : ByteArray) (b : Bool) (e : Int) (E : Int) (h : t.size ≤ 1000) (hE : ¬ E = 0) (HK : ∀ W : World, Below w.heap.size w W → Calls Tryd.prog 7 #[.agg #[.int .i64 k, .int .i64 m, .int .i64 s, .string t, .bool b, .int .i64 e]] W fun x w' => x = .returned (.int .i64 E) ∧ Below W.heap.size W w') :
    Calls Tryd.prog 4 #[.agg #[.int .i64 k, .int .i64 m, .int .i64 s, .string t, .bool b, .int .i64 e]] w fun x w' => x = .returned (.bool true) ∧ Below w.heap.size w w' := by
  have HN := Lib.hid (fun W : World => known9_any (w := W))
  have h' : ¬ (1000 : Int) < ((t.size : Nat) : Int) := by omega
  clear h
  have hE' : (E != 0) = true := bne_iff_ne.2 hE
  have HC := Lib.hid HK
  clear HK hE
  have HB := Lib.hid (sb1 w 25 #[.int .i64 k, .int .i64 m, .int .i64 s, .string t, .bool b, .int .i64 e])
  go_enter Tryd.func4, Tryd.ntmps4
  go_wp2_with fail
  refine (HN.out _).mono ?_
  rintro x w1 ⟨rfl, hb⟩
  have hB := HB.out.call hb
  clear hb HB
  have HB := Lib.hid hB
  clear hB
  have kv := HB.out.box (i := 0) rfl
  have cv0 := kv.cell 0
  have cv1 := kv.cell 1
  have cv2 := kv.cell 2
  have cv3 := kv.cell 3
  have cv4 := kv.cell 4
  have cv5 := kv.cell 5
  clear kv
  go_wp2_with fail
  refine (HC.out _ HB.out.bel).mono ?_
  rintro x w2 ⟨rfl, hb⟩
  have hB := HB.out.call hb
  clear hb HB
  have HB := Lib.hid hB
  clear hB
  clear cv0 cv1 cv2 cv3 cv4 cv5
  have hbel := HB.out.bel
  clear HB
  go_wp2
  go_ret
  exact ⟨rfl, hbel⟩

set_option maxRecDepth 20000 in
set_option maxHeartbeats 2000000 in
theorem blank_num_m {w : World} (m : Int) (s : Nat) (KD : ∀ W : World, Calls Tryd.prog 10 #[.agg #[.int .i64 0, .int .i64 0], .agg #[.int .i64 m, .int .i64 (s : Nat)]] W fun x w' => x = .returned (.int .i64 (-1)) ∧ Below W.heap.size W w') (HK : ∀ W : World, Below w.heap.size w W → Calls Tryd.prog 7 #[.agg #[.int .i64 1, .int .i64 m, .int .i64 (s : Nat), .string ⟨#[]⟩, .bool false, .int .i64 0]] W fun x w' => x = .returned (.int .i64 0) ∧ Below W.heap.size W w') (K1 : ∀ W : World, Calls Tryd.prog 8 #[.agg #[.int .i64 0, .int .i64 0, .int .i64 0, .string ⟨#[]⟩, .bool false, .int .i64 0], .agg #[.int .i64 1, .int .i64 m, .int .i64 (s : Nat), .string ⟨#[]⟩, .bool false, .int .i64 0]] W fun x w' => x = .returned (.int .i64 (-1)) ∧ Below W.heap.size W w') (K2 : ∀ W : World, Calls Tryd.prog 8 #[.agg #[.int .i64 1, .int .i64 m, .int .i64 (s : Nat), .string ⟨#[]⟩, .bool false, .int .i64 0], .agg #[.int .i64 0, .int .i64 0, .int .i64 0, .string ⟨#[]⟩, .bool false, .int .i64 0]] W fun x w' => x = .returned (.int .i64 1) ∧ Below W.heap.size W w') :
    Calls Tryd.prog 4 #[.agg #[.int .i64 1, .int .i64 m, .int .i64 (s : Nat), .string ⟨#[]⟩, .bool false, .int .i64 0]] w fun x w' => x = .returned (.bool true) ∧ Below w.heap.size w w' := by
  have HN := Lib.hid (fun W : World => known9_any (w := W))
  have HC := Lib.hid HK
  have H1 := Lib.hid K1
  have H2 := Lib.hid K2
  clear HK K1 K2
  have HD := Lib.hid KD
  clear KD
  have HI := Lib.hid (fun W : World => int_any (w := W) (n := 0))
  have HB := Lib.hid (sb1 w 25 #[.int .i64 1, .int .i64 m, .int .i64 (s : Nat), .string ⟨#[]⟩, .bool false, .int .i64 0])
  go_enter Tryd.func4, Tryd.ntmps4
  go_wp2_with fail
  refine (HN.out _).mono ?_
  rintro x w1 ⟨rfl, hb⟩
  have hB := HB.out.call hb
  clear hb HB
  have HB := Lib.hid hB
  clear hB
  have kv := HB.out.box (i := 0) rfl
  have cv0 := kv.cell 0
  have cv1 := kv.cell 1
  have cv2 := kv.cell 2
  have cv3 := kv.cell 3
  have cv4 := kv.cell 4
  have cv5 := kv.cell 5
  clear kv
  go_wp2_with fail
  refine (HC.out _ HB.out.bel).mono ?_
  rintro x w2 ⟨rfl, hb⟩
  have hB := HB.out.call hb
  clear hb HB
  have HB := Lib.hid hB
  clear hB
  clear cv0 cv1 cv2 cv3 cv4 cv5
  have hB := HB.out.alloc 25 #[.int .i64 0, .int .i64 0, .int .i64 0, .string ⟨#[]⟩, .bool false, .int .i64 0]
  clear HB
  have HB := Lib.hid hB
  clear hB
  have kv := HB.out.box (i := 1) rfl
  have cv0 := kv.cell 0
  have cv1 := kv.cell 1
  have cv2 := kv.cell 2
  have cv3 := kv.cell 3
  have cv4 := kv.cell 4
  have cv5 := kv.cell 5
  clear kv
  go_wp2_with fail
  refine (H1.out _).mono ?_
  rintro x w3 ⟨rfl, hb⟩
  have hB := HB.out.call hb
  clear hb HB
  have HB := Lib.hid hB
  clear hB
  clear cv0 cv1 cv2 cv3 cv4 cv5
  have kz := HB.out.box (i := 0) rfl
  have cz0 := kz.cell 0
  have cz1 := kz.cell 1
  have cz2 := kz.cell 2
  have cz3 := kz.cell 3
  have cz4 := kz.cell 4
  have cz5 := kz.cell 5
  clear kz
  have kv := HB.out.box (i := 1) rfl
  have cv0 := kv.cell 0
  have cv1 := kv.cell 1
  have cv2 := kv.cell 2
  have cv3 := kv.cell 3
  have cv4 := kv.cell 4
  have cv5 := kv.cell 5
  clear kv
  go_wp2_with fail
  refine (H2.out _).mono ?_
  rintro x w4 ⟨rfl, hb⟩
  have hB := HB.out.call hb
  clear hb HB
  have HB := Lib.hid hB
  clear hB
  clear cv0 cv1 cv2 cv3 cv4 cv5
  clear cz0 cz1 cz2 cz3 cz4 cz5
  have kv := HB.out.box (i := 1) rfl
  have cv0 := kv.cell 0
  have cv1 := kv.cell 1
  have cv2 := kv.cell 2
  have cv3 := kv.cell 3
  have cv4 := kv.cell 4
  have cv5 := kv.cell 5
  clear kv
  clear HN HC H1 H2
  go_wp2_with fail
  clear cv0 cv1 cv2 cv3 cv4 cv5
  refine wp_region_phases (S := (fun vals W => SX w 1 ([] : List Stp) vals ([(w2.heap.size, 25, #[.int .i64 0, .int .i64 0, .int .i64 0, .string ⟨#[]⟩, .bool false, .int .i64 0]), (w.heap.size, 25, #[.int .i64 1, .int .i64 m, .int .i64 (s : Nat), .string ⟨#[]⟩, .bool false, .int .i64 0])] : List (Nat × TypeId × Array Value)) W)) (E := (fun _ _ => True)) [] [(1, Is (.pointer (some ⟨w.heap.size, 0, none⟩))), (4, Is (.int .i64 (-1)))] [(30, Is (.int .i64 (-1))), (31, Is (.agg #[.int .i64 0, .int .i64 0])), (32, Is (.pointer (some ⟨w.heap.size, 1, none⟩))), (33, Is (.agg #[.int .i64 m, .int .i64 (s : Nat)])), (34, Is (.int .i64 (-1))), (35, Is (.bool true)), (2, Is (.bool true))]
    [.op [4] none, .op [] none, .op [1] none, .op [32] none, .op [31, 33] none, .op [30, 34] none, .op [35] none] (by as_aux_lemma => kernel_rfl) ?_ ?_ ?_ ?_ ?_ ⟨stable_is _ _, stable_is _ _, stable_is _ _, stable_is _ _, stable_is _ _, stable_is _ _, stable_is _ _, stable_is _ _, stable_is _ _, trivial⟩ ?_ (HB.out.drew) ?_ ?_
  · as_aux_lemma => kernel_rfl
  · as_aux_lemma => kernel_rfl
  · as_aux_lemma => kernel_rfl
  · as_aux_lemma => kernel_rfl
  · as_aux_lemma => kernel_rfl
  · exact ⟨rfl, rfl, trivial⟩
  · refine ⟨?_, ?_, ?_, ?_, ?_, ?_, ?_, trivial⟩
    · as_aux_lemma =>
        intro vals a W hS hL
        have e4 : a.tmps.getD 4 undef = .int .i64 (-1) := hL.1
        clear hL
        go_simp
        exact ⟨⟨fun d hd => by injection hd with hd; subst hd; rfl, fun h => by cases h⟩, hS, trivial⟩
    · as_aux_lemma =>
        intro vals a W hS hL
        clear hL
        go_simp
        refine (HI.out W).mono ?_
        rintro e W' ⟨rfl, hb⟩
        exact ⟨_, rfl, ⟨fun d hd => by injection hd with hd; subst hd; rfl, fun h => by cases h⟩, hS.call hb, trivial⟩
    · as_aux_lemma =>
        intro vals a W hS hL
        have e1 : a.tmps.getD 1 undef = .pointer (some ⟨w.heap.size, 0, none⟩) := hL.1
        clear hL
        go_simp
        exact ⟨⟨fun d hd => by injection hd with hd; subst hd; rfl, fun h => by cases h⟩, hS, trivial⟩
    · as_aux_lemma =>
        intro vals a W hS hL
        have e32 : a.tmps.getD 32 undef = .pointer (some ⟨w.heap.size, 1, none⟩) := hL.1
        clear hL
        have kb : Bk W (w.heap.size) 25 #[.int .i64 1, .int .i64 m, .int .i64 (s : Nat), .string ⟨#[]⟩, .bool false, .int .i64 0] := hS.bk 1 rfl rfl
        have f1 := kb.cell 1
        have f2 := kb.cell 2
        clear kb
        go_simp
        exact ⟨⟨fun d hd => by injection hd with hd; subst hd; rfl, fun h => by cases h⟩, hS, trivial⟩
    · as_aux_lemma =>
        intro vals a W hS hL
        have e31 : a.tmps.getD 31 undef = .agg #[.int .i64 0, .int .i64 0] := hL.1
        have e33 : a.tmps.getD 33 undef = .agg #[.int .i64 m, .int .i64 (s : Nat)] := hL.2.1
        clear hL
        go_simp
        refine (HD.out W).mono ?_
        rintro e W' ⟨rfl, hb⟩
        exact ⟨_, rfl, ⟨fun d hd => by injection hd with hd; subst hd; rfl, fun h => by cases h⟩, hS.call hb, trivial⟩
    · as_aux_lemma =>
        intro vals a W hS hL
        have e30 : a.tmps.getD 30 undef = .int .i64 (-1) := hL.1
        have e34 : a.tmps.getD 34 undef = .int .i64 (-1) := hL.2.1
        clear hL
        go_simp
        exact ⟨⟨fun d hd => by injection hd with hd; subst hd; rfl, fun h => by cases h⟩, hS, trivial⟩
    · as_aux_lemma =>
        intro vals a W hS hL
        have e35 : a.tmps.getD 35 undef = .bool true := hL.1
        clear hL
        go_simp
        exact ⟨⟨fun d hd => by injection hd with hd; subst hd; rfl, fun h => by cases h⟩, hS, trivial⟩
  · intro a W' vals hd hsz hT hF hv hP hS
    obtain rfl : vals = [] := List.eq_nil_of_length_eq_zero hv
    have hS2 : SX w 1 ([] : List Stp) [] ([(w2.heap.size, 25, #[.int .i64 0, .int .i64 0, .int .i64 0, .string ⟨#[]⟩, .bool false, .int .i64 0]), (w.heap.size, 25, #[.int .i64 1, .int .i64 m, .int .i64 (s : Nat), .string ⟨#[]⟩, .bool false, .int .i64 0])] : List (Nat × TypeId × Array Value)) W' := hS
    clear hS
    have hB0 := hS2
    have hB : SB w 1 ([(w2.heap.size, 25, #[.int .i64 0, .int .i64 0, .int .i64 0, .string ⟨#[]⟩, .bool false, .int .i64 0]), (w.heap.size, 25, #[.int .i64 1, .int .i64 m, .int .i64 (s : Nat), .string ⟨#[]⟩, .bool false, .int .i64 0])] : List (Nat × TypeId × Array Value)) W' := hB0
    clear hB0
    have e2 : a.tmps.getD 2 undef = .bool true := hT 2 (by simp)
    clear hT hF hP
    go_wp2
    refine bodyPost_ret (v := .bool true) ?_ hd ⟨rfl, hB.bel⟩
    rw [Array.getD_eq_getD_getElem?] at e2
    simp [results, Tryd.results4, go_sem, e2]

set_option maxRecDepth 20000 in
set_option maxHeartbeats 2000000 in
theorem blank_num_z {w : World} (m : Int) (s : Nat) (KD : ∀ W : World, Calls Tryd.prog 10 #[.agg #[.int .i64 0, .int .i64 0], .agg #[.int .i64 m, .int .i64 (s : Nat)]] W fun x w' => x = .returned (.int .i64 0) ∧ Below W.heap.size W w') (HK : ∀ W : World, Below w.heap.size w W → Calls Tryd.prog 7 #[.agg #[.int .i64 1, .int .i64 m, .int .i64 (s : Nat), .string ⟨#[]⟩, .bool false, .int .i64 0]] W fun x w' => x = .returned (.int .i64 0) ∧ Below W.heap.size W w') (K1 : ∀ W : World, Calls Tryd.prog 8 #[.agg #[.int .i64 0, .int .i64 0, .int .i64 0, .string ⟨#[]⟩, .bool false, .int .i64 0], .agg #[.int .i64 1, .int .i64 m, .int .i64 (s : Nat), .string ⟨#[]⟩, .bool false, .int .i64 0]] W fun x w' => x = .returned (.int .i64 0) ∧ Below W.heap.size W w') (K2 : ∀ W : World, Calls Tryd.prog 8 #[.agg #[.int .i64 1, .int .i64 m, .int .i64 (s : Nat), .string ⟨#[]⟩, .bool false, .int .i64 0], .agg #[.int .i64 0, .int .i64 0, .int .i64 0, .string ⟨#[]⟩, .bool false, .int .i64 0]] W fun x w' => x = .returned (.int .i64 0) ∧ Below W.heap.size W w') :
    Calls Tryd.prog 4 #[.agg #[.int .i64 1, .int .i64 m, .int .i64 (s : Nat), .string ⟨#[]⟩, .bool false, .int .i64 0]] w fun x w' => x = .returned (.bool true) ∧ Below w.heap.size w w' := by
  have HN := Lib.hid (fun W : World => known9_any (w := W))
  have HC := Lib.hid HK
  have H1 := Lib.hid K1
  have H2 := Lib.hid K2
  clear HK K1 K2
  have HD := Lib.hid KD
  clear KD
  have HI := Lib.hid (fun W : World => int_any (w := W) (n := 0))
  have HB := Lib.hid (sb1 w 25 #[.int .i64 1, .int .i64 m, .int .i64 (s : Nat), .string ⟨#[]⟩, .bool false, .int .i64 0])
  go_enter Tryd.func4, Tryd.ntmps4
  go_wp2_with fail
  refine (HN.out _).mono ?_
  rintro x w1 ⟨rfl, hb⟩
  have hB := HB.out.call hb
  clear hb HB
  have HB := Lib.hid hB
  clear hB
  have kv := HB.out.box (i := 0) rfl
  have cv0 := kv.cell 0
  have cv1 := kv.cell 1
  have cv2 := kv.cell 2
  have cv3 := kv.cell 3
  have cv4 := kv.cell 4
  have cv5 := kv.cell 5
  clear kv
  go_wp2_with fail
  refine (HC.out _ HB.out.bel).mono ?_
  rintro x w2 ⟨rfl, hb⟩
  have hB := HB.out.call hb
  clear hb HB
  have HB := Lib.hid hB
  clear hB
  clear cv0 cv1 cv2 cv3 cv4 cv5
  have hB := HB.out.alloc 25 #[.int .i64 0, .int .i64 0, .int .i64 0, .string ⟨#[]⟩, .bool false, .int .i64 0]
  clear HB
  have HB := Lib.hid hB
  clear hB
  have kv := HB.out.box (i := 1) rfl
  have cv0 := kv.cell 0
  have cv1 := kv.cell 1
  have cv2 := kv.cell 2
  have cv3 := kv.cell 3
  have cv4 := kv.cell 4
  have cv5 := kv.cell 5
  clear kv
  go_wp2_with fail
  refine (H1.out _).mono ?_
  rintro x w3 ⟨rfl, hb⟩
  have hB := HB.out.call hb
  clear hb HB
  have HB := Lib.hid hB
  clear hB
  clear cv0 cv1 cv2 cv3 cv4 cv5
  have kz := HB.out.box (i := 0) rfl
  have cz0 := kz.cell 0
  have cz1 := kz.cell 1
  have cz2 := kz.cell 2
  have cz3 := kz.cell 3
  have cz4 := kz.cell 4
  have cz5 := kz.cell 5
  clear kz
  have kv := HB.out.box (i := 1) rfl
  have cv0 := kv.cell 0
  have cv1 := kv.cell 1
  have cv2 := kv.cell 2
  have cv3 := kv.cell 3
  have cv4 := kv.cell 4
  have cv5 := kv.cell 5
  clear kv
  go_wp2_with fail
  refine (H2.out _).mono ?_
  rintro x w4 ⟨rfl, hb⟩
  have hB := HB.out.call hb
  clear hb HB
  have HB := Lib.hid hB
  clear hB
  clear cv0 cv1 cv2 cv3 cv4 cv5
  clear cz0 cz1 cz2 cz3 cz4 cz5
  have kv := HB.out.box (i := 1) rfl
  have cv0 := kv.cell 0
  have cv1 := kv.cell 1
  have cv2 := kv.cell 2
  have cv3 := kv.cell 3
  have cv4 := kv.cell 4
  have cv5 := kv.cell 5
  clear kv
  clear HN HC H1 H2
  go_wp2_with fail
  clear cv0 cv1 cv2 cv3 cv4 cv5
  refine wp_region_phases (S := (fun vals W => SX w 1 ([] : List Stp) vals ([(w2.heap.size, 25, #[.int .i64 0, .int .i64 0, .int .i64 0, .string ⟨#[]⟩, .bool false, .int .i64 0]), (w.heap.size, 25, #[.int .i64 1, .int .i64 m, .int .i64 (s : Nat), .string ⟨#[]⟩, .bool false, .int .i64 0])] : List (Nat × TypeId × Array Value)) W)) (E := (fun _ _ => True)) [] [(1, Is (.pointer (some ⟨w.heap.size, 0, none⟩))), (4, Is (.int .i64 0))] [(30, Is (.int .i64 0)), (31, Is (.agg #[.int .i64 0, .int .i64 0])), (32, Is (.pointer (some ⟨w.heap.size, 1, none⟩))), (33, Is (.agg #[.int .i64 m, .int .i64 (s : Nat)])), (34, Is (.int .i64 0)), (35, Is (.bool true)), (2, Is (.bool true))]
    [.op [4] none, .op [] none, .op [1] none, .op [32] none, .op [31, 33] none, .op [30, 34] none, .op [35] none] (by as_aux_lemma => kernel_rfl) ?_ ?_ ?_ ?_ ?_ ⟨stable_is _ _, stable_is _ _, stable_is _ _, stable_is _ _, stable_is _ _, stable_is _ _, stable_is _ _, stable_is _ _, stable_is _ _, trivial⟩ ?_ (HB.out.drew) ?_ ?_
  · as_aux_lemma => kernel_rfl
  · as_aux_lemma => kernel_rfl
  · as_aux_lemma => kernel_rfl
  · as_aux_lemma => kernel_rfl
  · as_aux_lemma => kernel_rfl
  · exact ⟨rfl, rfl, trivial⟩
  · refine ⟨?_, ?_, ?_, ?_, ?_, ?_, ?_, trivial⟩
    · as_aux_lemma =>
        intro vals a W hS hL
        have e4 : a.tmps.getD 4 undef = .int .i64 0 := hL.1
        clear hL
        go_simp
        exact ⟨⟨fun d hd => by injection hd with hd; subst hd; rfl, fun h => by cases h⟩, hS, trivial⟩
    · as_aux_lemma =>
        intro vals a W hS hL
        clear hL
        go_simp
        refine (HI.out W).mono ?_
        rintro e W' ⟨rfl, hb⟩
        exact ⟨_, rfl, ⟨fun d hd => by injection hd with hd; subst hd; rfl, fun h => by cases h⟩, hS.call hb, trivial⟩
    · as_aux_lemma =>
        intro vals a W hS hL
        have e1 : a.tmps.getD 1 undef = .pointer (some ⟨w.heap.size, 0, none⟩) := hL.1
        clear hL
        go_simp
        exact ⟨⟨fun d hd => by injection hd with hd; subst hd; rfl, fun h => by cases h⟩, hS, trivial⟩
    · as_aux_lemma =>
        intro vals a W hS hL
        have e32 : a.tmps.getD 32 undef = .pointer (some ⟨w.heap.size, 1, none⟩) := hL.1
        clear hL
        have kb : Bk W (w.heap.size) 25 #[.int .i64 1, .int .i64 m, .int .i64 (s : Nat), .string ⟨#[]⟩, .bool false, .int .i64 0] := hS.bk 1 rfl rfl
        have f1 := kb.cell 1
        have f2 := kb.cell 2
        clear kb
        go_simp
        exact ⟨⟨fun d hd => by injection hd with hd; subst hd; rfl, fun h => by cases h⟩, hS, trivial⟩
    · as_aux_lemma =>
        intro vals a W hS hL
        have e31 : a.tmps.getD 31 undef = .agg #[.int .i64 0, .int .i64 0] := hL.1
        have e33 : a.tmps.getD 33 undef = .agg #[.int .i64 m, .int .i64 (s : Nat)] := hL.2.1
        clear hL
        go_simp
        refine (HD.out W).mono ?_
        rintro e W' ⟨rfl, hb⟩
        exact ⟨_, rfl, ⟨fun d hd => by injection hd with hd; subst hd; rfl, fun h => by cases h⟩, hS.call hb, trivial⟩
    · as_aux_lemma =>
        intro vals a W hS hL
        have e30 : a.tmps.getD 30 undef = .int .i64 0 := hL.1
        have e34 : a.tmps.getD 34 undef = .int .i64 0 := hL.2.1
        clear hL
        go_simp
        exact ⟨⟨fun d hd => by injection hd with hd; subst hd; rfl, fun h => by cases h⟩, hS, trivial⟩
    · as_aux_lemma =>
        intro vals a W hS hL
        have e35 : a.tmps.getD 35 undef = .bool true := hL.1
        clear hL
        go_simp
        exact ⟨⟨fun d hd => by injection hd with hd; subst hd; rfl, fun h => by cases h⟩, hS, trivial⟩
  · intro a W' vals hd hsz hT hF hv hP hS
    obtain rfl : vals = [] := List.eq_nil_of_length_eq_zero hv
    have hS2 : SX w 1 ([] : List Stp) [] ([(w2.heap.size, 25, #[.int .i64 0, .int .i64 0, .int .i64 0, .string ⟨#[]⟩, .bool false, .int .i64 0]), (w.heap.size, 25, #[.int .i64 1, .int .i64 m, .int .i64 (s : Nat), .string ⟨#[]⟩, .bool false, .int .i64 0])] : List (Nat × TypeId × Array Value)) W' := hS
    clear hS
    have hB0 := hS2
    have hB : SB w 1 ([(w2.heap.size, 25, #[.int .i64 0, .int .i64 0, .int .i64 0, .string ⟨#[]⟩, .bool false, .int .i64 0]), (w.heap.size, 25, #[.int .i64 1, .int .i64 m, .int .i64 (s : Nat), .string ⟨#[]⟩, .bool false, .int .i64 0])] : List (Nat × TypeId × Array Value)) W' := hB0
    clear hB0
    have e2 : a.tmps.getD 2 undef = .bool true := hT 2 (by simp)
    clear hT hF hP
    go_wp2
    refine bodyPost_ret (v := .bool true) ?_ hd ⟨rfl, hB.bel⟩
    rw [Array.getD_eq_getD_getElem?] at e2
    simp [results, Tryd.results4, go_sem, e2]

set_option maxRecDepth 20000 in
set_option maxHeartbeats 2000000 in
theorem blank_num_p {w : World} (m : Int) (s : Nat) (KD : ∀ W : World, Calls Tryd.prog 10 #[.agg #[.int .i64 0, .int .i64 0], .agg #[.int .i64 m, .int .i64 (s : Nat)]] W fun x w' => x = .returned (.int .i64 1) ∧ Below W.heap.size W w') (HK : ∀ W : World, Below w.heap.size w W → Calls Tryd.prog 7 #[.agg #[.int .i64 1, .int .i64 m, .int .i64 (s : Nat), .string ⟨#[]⟩, .bool false, .int .i64 0]] W fun x w' => x = .returned (.int .i64 0) ∧ Below W.heap.size W w') (K1 : ∀ W : World, Calls Tryd.prog 8 #[.agg #[.int .i64 0, .int .i64 0, .int .i64 0, .string ⟨#[]⟩, .bool false, .int .i64 0], .agg #[.int .i64 1, .int .i64 m, .int .i64 (s : Nat), .string ⟨#[]⟩, .bool false, .int .i64 0]] W fun x w' => x = .returned (.int .i64 1) ∧ Below W.heap.size W w') (K2 : ∀ W : World, Calls Tryd.prog 8 #[.agg #[.int .i64 1, .int .i64 m, .int .i64 (s : Nat), .string ⟨#[]⟩, .bool false, .int .i64 0], .agg #[.int .i64 0, .int .i64 0, .int .i64 0, .string ⟨#[]⟩, .bool false, .int .i64 0]] W fun x w' => x = .returned (.int .i64 (-1)) ∧ Below W.heap.size W w') :
    Calls Tryd.prog 4 #[.agg #[.int .i64 1, .int .i64 m, .int .i64 (s : Nat), .string ⟨#[]⟩, .bool false, .int .i64 0]] w fun x w' => x = .returned (.bool true) ∧ Below w.heap.size w w' := by
  have HN := Lib.hid (fun W : World => known9_any (w := W))
  have HC := Lib.hid HK
  have H1 := Lib.hid K1
  have H2 := Lib.hid K2
  clear HK K1 K2
  have HD := Lib.hid KD
  clear KD
  have HI := Lib.hid (fun W : World => int_any (w := W) (n := 0))
  have HB := Lib.hid (sb1 w 25 #[.int .i64 1, .int .i64 m, .int .i64 (s : Nat), .string ⟨#[]⟩, .bool false, .int .i64 0])
  go_enter Tryd.func4, Tryd.ntmps4
  go_wp2_with fail
  refine (HN.out _).mono ?_
  rintro x w1 ⟨rfl, hb⟩
  have hB := HB.out.call hb
  clear hb HB
  have HB := Lib.hid hB
  clear hB
  have kv := HB.out.box (i := 0) rfl
  have cv0 := kv.cell 0
  have cv1 := kv.cell 1
  have cv2 := kv.cell 2
  have cv3 := kv.cell 3
  have cv4 := kv.cell 4
  have cv5 := kv.cell 5
  clear kv
  go_wp2_with fail
  refine (HC.out _ HB.out.bel).mono ?_
  rintro x w2 ⟨rfl, hb⟩
  have hB := HB.out.call hb
  clear hb HB
  have HB := Lib.hid hB
  clear hB
  clear cv0 cv1 cv2 cv3 cv4 cv5
  have hB := HB.out.alloc 25 #[.int .i64 0, .int .i64 0, .int .i64 0, .string ⟨#[]⟩, .bool false, .int .i64 0]
  clear HB
  have HB := Lib.hid hB
  clear hB
  have kv := HB.out.box (i := 1) rfl
  have cv0 := kv.cell 0
  have cv1 := kv.cell 1
  have cv2 := kv.cell 2
  have cv3 := kv.cell 3
  have cv4 := kv.cell 4
  have cv5 := kv.cell 5
  clear kv
  go_wp2_with fail
  refine (H1.out _).mono ?_
  rintro x w3 ⟨rfl, hb⟩
  have hB := HB.out.call hb
  clear hb HB
  have HB := Lib.hid hB
  clear hB
  clear cv0 cv1 cv2 cv3 cv4 cv5
  have kz := HB.out.box (i := 0) rfl
  have cz0 := kz.cell 0
  have cz1 := kz.cell 1
  have cz2 := kz.cell 2
  have cz3 := kz.cell 3
  have cz4 := kz.cell 4
  have cz5 := kz.cell 5
  clear kz
  have kv := HB.out.box (i := 1) rfl
  have cv0 := kv.cell 0
  have cv1 := kv.cell 1
  have cv2 := kv.cell 2
  have cv3 := kv.cell 3
  have cv4 := kv.cell 4
  have cv5 := kv.cell 5
  clear kv
  go_wp2_with fail
  refine (H2.out _).mono ?_
  rintro x w4 ⟨rfl, hb⟩
  have hB := HB.out.call hb
  clear hb HB
  have HB := Lib.hid hB
  clear hB
  clear cv0 cv1 cv2 cv3 cv4 cv5
  clear cz0 cz1 cz2 cz3 cz4 cz5
  have kv := HB.out.box (i := 1) rfl
  have cv0 := kv.cell 0
  have cv1 := kv.cell 1
  have cv2 := kv.cell 2
  have cv3 := kv.cell 3
  have cv4 := kv.cell 4
  have cv5 := kv.cell 5
  clear kv
  clear HN HC H1 H2
  go_wp2_with fail
  clear cv0 cv1 cv2 cv3 cv4 cv5
  refine wp_region_phases (S := (fun vals W => SX w 1 ([] : List Stp) vals ([(w2.heap.size, 25, #[.int .i64 0, .int .i64 0, .int .i64 0, .string ⟨#[]⟩, .bool false, .int .i64 0]), (w.heap.size, 25, #[.int .i64 1, .int .i64 m, .int .i64 (s : Nat), .string ⟨#[]⟩, .bool false, .int .i64 0])] : List (Nat × TypeId × Array Value)) W)) (E := (fun _ _ => True)) [] [(1, Is (.pointer (some ⟨w.heap.size, 0, none⟩))), (4, Is (.int .i64 1))] [(30, Is (.int .i64 1)), (31, Is (.agg #[.int .i64 0, .int .i64 0])), (32, Is (.pointer (some ⟨w.heap.size, 1, none⟩))), (33, Is (.agg #[.int .i64 m, .int .i64 (s : Nat)])), (34, Is (.int .i64 1)), (35, Is (.bool true)), (2, Is (.bool true))]
    [.op [4] none, .op [] none, .op [1] none, .op [32] none, .op [31, 33] none, .op [30, 34] none, .op [35] none] (by as_aux_lemma => kernel_rfl) ?_ ?_ ?_ ?_ ?_ ⟨stable_is _ _, stable_is _ _, stable_is _ _, stable_is _ _, stable_is _ _, stable_is _ _, stable_is _ _, stable_is _ _, stable_is _ _, trivial⟩ ?_ (HB.out.drew) ?_ ?_
  · as_aux_lemma => kernel_rfl
  · as_aux_lemma => kernel_rfl
  · as_aux_lemma => kernel_rfl
  · as_aux_lemma => kernel_rfl
  · as_aux_lemma => kernel_rfl
  · exact ⟨rfl, rfl, trivial⟩
  · refine ⟨?_, ?_, ?_, ?_, ?_, ?_, ?_, trivial⟩
    · as_aux_lemma =>
        intro vals a W hS hL
        have e4 : a.tmps.getD 4 undef = .int .i64 1 := hL.1
        clear hL
        go_simp
        exact ⟨⟨fun d hd => by injection hd with hd; subst hd; rfl, fun h => by cases h⟩, hS, trivial⟩
    · as_aux_lemma =>
        intro vals a W hS hL
        clear hL
        go_simp
        refine (HI.out W).mono ?_
        rintro e W' ⟨rfl, hb⟩
        exact ⟨_, rfl, ⟨fun d hd => by injection hd with hd; subst hd; rfl, fun h => by cases h⟩, hS.call hb, trivial⟩
    · as_aux_lemma =>
        intro vals a W hS hL
        have e1 : a.tmps.getD 1 undef = .pointer (some ⟨w.heap.size, 0, none⟩) := hL.1
        clear hL
        go_simp
        exact ⟨⟨fun d hd => by injection hd with hd; subst hd; rfl, fun h => by cases h⟩, hS, trivial⟩
    · as_aux_lemma =>
        intro vals a W hS hL
        have e32 : a.tmps.getD 32 undef = .pointer (some ⟨w.heap.size, 1, none⟩) := hL.1
        clear hL
        have kb : Bk W (w.heap.size) 25 #[.int .i64 1, .int .i64 m, .int .i64 (s : Nat), .string ⟨#[]⟩, .bool false, .int .i64 0] := hS.bk 1 rfl rfl
        have f1 := kb.cell 1
        have f2 := kb.cell 2
        clear kb
        go_simp
        exact ⟨⟨fun d hd => by injection hd with hd; subst hd; rfl, fun h => by cases h⟩, hS, trivial⟩
    · as_aux_lemma =>
        intro vals a W hS hL
        have e31 : a.tmps.getD 31 undef = .agg #[.int .i64 0, .int .i64 0] := hL.1
        have e33 : a.tmps.getD 33 undef = .agg #[.int .i64 m, .int .i64 (s : Nat)] := hL.2.1
        clear hL
        go_simp
        refine (HD.out W).mono ?_
        rintro e W' ⟨rfl, hb⟩
        exact ⟨_, rfl, ⟨fun d hd => by injection hd with hd; subst hd; rfl, fun h => by cases h⟩, hS.call hb, trivial⟩
    · as_aux_lemma =>
        intro vals a W hS hL
        have e30 : a.tmps.getD 30 undef = .int .i64 1 := hL.1
        have e34 : a.tmps.getD 34 undef = .int .i64 1 := hL.2.1
        clear hL
        go_simp
        exact ⟨⟨fun d hd => by injection hd with hd; subst hd; rfl, fun h => by cases h⟩, hS, trivial⟩
    · as_aux_lemma =>
        intro vals a W hS hL
        have e35 : a.tmps.getD 35 undef = .bool true := hL.1
        clear hL
        go_simp
        exact ⟨⟨fun d hd => by injection hd with hd; subst hd; rfl, fun h => by cases h⟩, hS, trivial⟩
  · intro a W' vals hd hsz hT hF hv hP hS
    obtain rfl : vals = [] := List.eq_nil_of_length_eq_zero hv
    have hS2 : SX w 1 ([] : List Stp) [] ([(w2.heap.size, 25, #[.int .i64 0, .int .i64 0, .int .i64 0, .string ⟨#[]⟩, .bool false, .int .i64 0]), (w.heap.size, 25, #[.int .i64 1, .int .i64 m, .int .i64 (s : Nat), .string ⟨#[]⟩, .bool false, .int .i64 0])] : List (Nat × TypeId × Array Value)) W' := hS
    clear hS
    have hB0 := hS2
    have hB : SB w 1 ([(w2.heap.size, 25, #[.int .i64 0, .int .i64 0, .int .i64 0, .string ⟨#[]⟩, .bool false, .int .i64 0]), (w.heap.size, 25, #[.int .i64 1, .int .i64 m, .int .i64 (s : Nat), .string ⟨#[]⟩, .bool false, .int .i64 0])] : List (Nat × TypeId × Array Value)) W' := hB0
    clear hB0
    have e2 : a.tmps.getD 2 undef = .bool true := hT 2 (by simp)
    clear hT hF hP
    go_wp2
    refine bodyPost_ret (v := .bool true) ?_ hd ⟨rfl, hB.bel⟩
    rw [Array.getD_eq_getD_getElem?] at e2
    simp [results, Tryd.results4, go_sem, e2]

set_option maxRecDepth 20000 in
set_option maxHeartbeats 2000000 in
theorem blank_blank {w : World}  (HK : ∀ W : World, Below w.heap.size w W → Calls Tryd.prog 7 #[.agg #[.int .i64 0, .int .i64 0, .int .i64 0, .string ⟨#[]⟩, .bool false, .int .i64 0]] W fun x w' => x = .returned (.int .i64 0) ∧ Below W.heap.size W w') (K1 : ∀ W : World, Calls Tryd.prog 8 #[.agg #[.int .i64 0, .int .i64 0, .int .i64 0, .string ⟨#[]⟩, .bool false, .int .i64 0], .agg #[.int .i64 0, .int .i64 0, .int .i64 0, .string ⟨#[]⟩, .bool false, .int .i64 0]] W fun x w' => x = .returned (.int .i64 0) ∧ Below W.heap.size W w') (K2 : ∀ W : World, Calls Tryd.prog 8 #[.agg #[.int .i64 0, .int .i64 0, .int .i64 0, .string ⟨#[]⟩, .bool false, .int .i64 0], .agg #[.int .i64 0, .int .i64 0, .int .i64 0, .string ⟨#[]⟩, .bool false, .int .i64 0]] W fun x w' => x = .returned (.int .i64 0) ∧ Below W.heap.size W w') :
    Calls Tryd.prog 4 #[.agg #[.int .i64 0, .int .i64 0, .int .i64 0, .string ⟨#[]⟩, .bool false, .int .i64 0]] w fun x w' => x = .returned (.bool true) ∧ Below w.heap.size w w' := by
  have HN := Lib.hid (fun W : World => known9_any (w := W))
  have HC := Lib.hid HK
  have H1 := Lib.hid K1
  have H2 := Lib.hid K2
  clear HK K1 K2
  have HB := Lib.hid (sb1 w 25 #[.int .i64 0, .int .i64 0, .int .i64 0, .string ⟨#[]⟩, .bool false, .int .i64 0])
  go_enter Tryd.func4, Tryd.ntmps4
  go_wp2_with fail
  refine (HN.out _).mono ?_
  rintro x w1 ⟨rfl, hb⟩
  have hB := HB.out.call hb
  clear hb HB
  have HB := Lib.hid hB
  clear hB
  have kv := HB.out.box (i := 0) rfl
  have cv0 := kv.cell 0
  have cv1 := kv.cell 1
  have cv2 := kv.cell 2
  have cv3 := kv.cell 3
  have cv4 := kv.cell 4
  have cv5 := kv.cell 5
  clear kv
  go_wp2_with fail
  refine (HC.out _ HB.out.bel).mono ?_
  rintro x w2 ⟨rfl, hb⟩
  have hB := HB.out.call hb
  clear hb HB
  have HB := Lib.hid hB
  clear hB
  clear cv0 cv1 cv2 cv3 cv4 cv5
  have hB := HB.out.alloc 25 #[.int .i64 0, .int .i64 0, .int .i64 0, .string ⟨#[]⟩, .bool false, .int .i64 0]
  clear HB
  have HB := Lib.hid hB
  clear hB
  have kv := HB.out.box (i := 1) rfl
  have cv0 := kv.cell 0
  have cv1 := kv.cell 1
  have cv2 := kv.cell 2
  have cv3 := kv.cell 3
  have cv4 := kv.cell 4
  have cv5 := kv.cell 5
  clear kv
  go_wp2_with fail
  refine (H1.out _).mono ?_
  rintro x w3 ⟨rfl, hb⟩
  have hB := HB.out.call hb
  clear hb HB
  have HB := Lib.hid hB
  clear hB
  clear cv0 cv1 cv2 cv3 cv4 cv5
  have kz := HB.out.box (i := 0) rfl
  have cz0 := kz.cell 0
  have cz1 := kz.cell 1
  have cz2 := kz.cell 2
  have cz3 := kz.cell 3
  have cz4 := kz.cell 4
  have cz5 := kz.cell 5
  clear kz
  have kv := HB.out.box (i := 1) rfl
  have cv0 := kv.cell 0
  have cv1 := kv.cell 1
  have cv2 := kv.cell 2
  have cv3 := kv.cell 3
  have cv4 := kv.cell 4
  have cv5 := kv.cell 5
  clear kv
  go_wp2_with fail
  refine (H2.out _).mono ?_
  rintro x w4 ⟨rfl, hb⟩
  have hB := HB.out.call hb
  clear hb HB
  have HB := Lib.hid hB
  clear hB
  clear cv0 cv1 cv2 cv3 cv4 cv5
  clear cz0 cz1 cz2 cz3 cz4 cz5
  have kv := HB.out.box (i := 1) rfl
  have cv0 := kv.cell 0
  have cv1 := kv.cell 1
  have cv2 := kv.cell 2
  have cv3 := kv.cell 3
  have cv4 := kv.cell 4
  have cv5 := kv.cell 5
  clear kv
  have hbel := HB.out.bel
  clear HB
  go_wp2
  go_ret
  exact ⟨rfl, hbel⟩

set_option maxRecDepth 20000 in
set_option maxHeartbeats 2000000 in
theorem blank_str0 {w : World}  (HK : ∀ W : World, Below w.heap.size w W → Calls Tryd.prog 7 #[.agg #[.int .i64 2, .int .i64 0, .int .i64 0, .string ⟨#[]⟩, .bool false, .int .i64 0]] W fun x w' => x = .returned (.int .i64 0) ∧ Below W.heap.size W w') (K1 : ∀ W : World, Calls Tryd.prog 8 #[.agg #[.int .i64 0, .int .i64 0, .int .i64 0, .string ⟨#[]⟩, .bool false, .int .i64 0], .agg #[.int .i64 2, .int .i64 0, .int .i64 0, .string ⟨#[]⟩, .bool false, .int .i64 0]] W fun x w' => x = .returned (.int .i64 0) ∧ Below W.heap.size W w') (K2 : ∀ W : World, Calls Tryd.prog 8 #[.agg #[.int .i64 2, .int .i64 0, .int .i64 0, .string ⟨#[]⟩, .bool false, .int .i64 0], .agg #[.int .i64 0, .int .i64 0, .int .i64 0, .string ⟨#[]⟩, .bool false, .int .i64 0]] W fun x w' => x = .returned (.int .i64 0) ∧ Below W.heap.size W w') :
    Calls Tryd.prog 4 #[.agg #[.int .i64 2, .int .i64 0, .int .i64 0, .string ⟨#[]⟩, .bool false, .int .i64 0]] w fun x w' => x = .returned (.bool true) ∧ Below w.heap.size w w' := by
  have HN := Lib.hid (fun W : World => known9_any (w := W))
  have HC := Lib.hid HK
  have H1 := Lib.hid K1
  have H2 := Lib.hid K2
  clear HK K1 K2
  have HB := Lib.hid (sb1 w 25 #[.int .i64 2, .int .i64 0, .int .i64 0, .string ⟨#[]⟩, .bool false, .int .i64 0])
  go_enter Tryd.func4, Tryd.ntmps4
  go_wp2_with fail
  refine (HN.out _).mono ?_
  rintro x w1 ⟨rfl, hb⟩
  have hB := HB.out.call hb
  clear hb HB
  have HB := Lib.hid hB
  clear hB
  have kv := HB.out.box (i := 0) rfl
  have cv0 := kv.cell 0
  have cv1 := kv.cell 1
  have cv2 := kv.cell 2
  have cv3 := kv.cell 3
  have cv4 := kv.cell 4
  have cv5 := kv.cell 5
  clear kv
  go_wp2_with fail
  refine (HC.out _ HB.out.bel).mono ?_
  rintro x w2 ⟨rfl, hb⟩
  have hB := HB.out.call hb
  clear hb HB
  have HB := Lib.hid hB
  clear hB
  clear cv0 cv1 cv2 cv3 cv4 cv5
  have hB := HB.out.alloc 25 #[.int .i64 0, .int .i64 0, .int .i64 0, .string ⟨#[]⟩, .bool false, .int .i64 0]
  clear HB
  have HB := Lib.hid hB
  clear hB
  have kv := HB.out.box (i := 1) rfl
  have cv0 := kv.cell 0
  have cv1 := kv.cell 1
  have cv2 := kv.cell 2
  have cv3 := kv.cell 3
  have cv4 := kv.cell 4
  have cv5 := kv.cell 5
  clear kv
  go_wp2_with fail
  refine (H1.out _).mono ?_
  rintro x w3 ⟨rfl, hb⟩
  have hB := HB.out.call hb
  clear hb HB
  have HB := Lib.hid hB
  clear hB
  clear cv0 cv1 cv2 cv3 cv4 cv5
  have kz := HB.out.box (i := 0) rfl
  have cz0 := kz.cell 0
  have cz1 := kz.cell 1
  have cz2 := kz.cell 2
  have cz3 := kz.cell 3
  have cz4 := kz.cell 4
  have cz5 := kz.cell 5
  clear kz
  have kv := HB.out.box (i := 1) rfl
  have cv0 := kv.cell 0
  have cv1 := kv.cell 1
  have cv2 := kv.cell 2
  have cv3 := kv.cell 3
  have cv4 := kv.cell 4
  have cv5 := kv.cell 5
  clear kv
  go_wp2_with fail
  refine (H2.out _).mono ?_
  rintro x w4 ⟨rfl, hb⟩
  have hB := HB.out.call hb
  clear hb HB
  have HB := Lib.hid hB
  clear hB
  clear cv0 cv1 cv2 cv3 cv4 cv5
  clear cz0 cz1 cz2 cz3 cz4 cz5
  have kv := HB.out.box (i := 1) rfl
  have cv0 := kv.cell 0
  have cv1 := kv.cell 1
  have cv2 := kv.cell 2
  have cv3 := kv.cell 3
  have cv4 := kv.cell 4
  have cv5 := kv.cell 5
  clear kv
  have hbel := HB.out.bel
  clear HB
  go_wp2
  go_ret
  exact ⟨rfl, hbel⟩

set_option maxRecDepth 20000 in
set_option maxHeartbeats 2000000 in
theorem blank_str {w : World} (t : List UInt8) (ht : t.length ≤ 1000) (hne : ¬ t = []) (HK : ∀ W : World, Below w.heap.size w W → Calls Tryd.prog 7 #[.agg #[.int .i64 2, .int .i64 0, .int .i64 0, .string ⟨t.toArray⟩, .bool false, .int .i64 0]] W fun x w' => x = .returned (.int .i64 0) ∧ Below W.heap.size W w') (K1 : ∀ W : World, Calls Tryd.prog 8 #[.agg #[.int .i64 0, .int .i64 0, .int .i64 0, .string ⟨#[]⟩, .bool false, .int .i64 0], .agg #[.int .i64 2, .int .i64 0, .int .i64 0, .string ⟨t.toArray⟩, .bool false, .int .i64 0]] W fun x w' => x = .returned (.int .i64 (-1)) ∧ Below W.heap.size W w') (K2 : ∀ W : World, Calls Tryd.prog 8 #[.agg #[.int .i64 2, .int .i64 0, .int .i64 0, .string ⟨t.toArray⟩, .bool false, .int .i64 0], .agg #[.int .i64 0, .int .i64 0, .int .i64 0, .string ⟨#[]⟩, .bool false, .int .i64 0]] W fun x w' => x = .returned (.int .i64 1) ∧ Below W.heap.size W w') :
    Calls Tryd.prog 4 #[.agg #[.int .i64 2, .int .i64 0, .int .i64 0, .string ⟨t.toArray⟩, .bool false, .int .i64 0]] w fun x w' => x = .returned (.bool true) ∧ Below w.heap.size w w' := by
  have HN := Lib.hid (fun W : World => known9_any (w := W))
  have HC := Lib.hid HK
  have H1 := Lib.hid K1
  have H2 := Lib.hid K2
  clear HK K1 K2
  have h' : ¬ (1000 : Int) < ((t.length : Nat) : Int) := by omega
  have hne' : t.isEmpty = false := by rcases t with _ | ⟨c, l⟩ <;> first | exact absurd rfl hne | rfl
  clear ht hne
  have HB := Lib.hid (sb1 w 25 #[.int .i64 2, .int .i64 0, .int .i64 0, .string ⟨t.toArray⟩, .bool false, .int .i64 0])
  go_enter Tryd.func4, Tryd.ntmps4
  go_wp2_with fail
  refine (HN.out _).mono ?_
  rintro x w1 ⟨rfl, hb⟩
  have hB := HB.out.call hb
  clear hb HB
  have HB := Lib.hid hB
  clear hB
  have kv := HB.out.box (i := 0) rfl
  have cv0 := kv.cell 0
  have cv1 := kv.cell 1
  have cv2 := kv.cell 2
  have cv3 := kv.cell 3
  have cv4 := kv.cell 4
  have cv5 := kv.cell 5
  clear kv
  go_wp2_with fail
  refine (HC.out _ HB.out.bel).mono ?_
  rintro x w2 ⟨rfl, hb⟩
  have hB := HB.out.call hb
  clear hb HB
  have HB := Lib.hid hB
  clear hB
  clear cv0 cv1 cv2 cv3 cv4 cv5
  have hB := HB.out.alloc 25 #[.int .i64 0, .int .i64 0, .int .i64 0, .string ⟨#[]⟩, .bool false, .int .i64 0]
  clear HB
  have HB := Lib.hid hB
  clear hB
  have kv := HB.out.box (i := 1) rfl
  have cv0 := kv.cell 0
  have cv1 := kv.cell 1
  have cv2 := kv.cell 2
  have cv3 := kv.cell 3
  have cv4 := kv.cell 4
  have cv5 := kv.cell 5
  clear kv
  go_wp2_with fail
  refine (H1.out _).mono ?_
  rintro x w3 ⟨rfl, hb⟩
  have hB := HB.out.call hb
  clear hb HB
  have HB := Lib.hid hB
  clear hB
  clear cv0 cv1 cv2 cv3 cv4 cv5
  have kz := HB.out.box (i := 0) rfl
  have cz0 := kz.cell 0
  have cz1 := kz.cell 1
  have cz2 := kz.cell 2
  have cz3 := kz.cell 3
  have cz4 := kz.cell 4
  have cz5 := kz.cell 5
  clear kz
  have kv := HB.out.box (i := 1) rfl
  have cv0 := kv.cell 0
  have cv1 := kv.cell 1
  have cv2 := kv.cell 2
  have cv3 := kv.cell 3
  have cv4 := kv.cell 4
  have cv5 := kv.cell 5
  clear kv
  go_wp2_with fail
  refine (H2.out _).mono ?_
  rintro x w4 ⟨rfl, hb⟩
  have hB := HB.out.call hb
  clear hb HB
  have HB := Lib.hid hB
  clear hB
  clear cv0 cv1 cv2 cv3 cv4 cv5
  clear cz0 cz1 cz2 cz3 cz4 cz5
  have kv := HB.out.box (i := 1) rfl
  have cv0 := kv.cell 0
  have cv1 := kv.cell 1
  have cv2 := kv.cell 2
  have cv3 := kv.cell 3
  have cv4 := kv.cell 4
  have cv5 := kv.cell 5
  clear kv
  have hbel := HB.out.bel
  clear HB
  go_wp2
  go_ret
  exact ⟨rfl, hbel⟩

set_option maxRecDepth 20000 in
set_option maxHeartbeats 2000000 in
theorem blank_bool0 {w : World}  (HK : ∀ W : World, Below w.heap.size w W → Calls Tryd.prog 7 #[.agg #[.int .i64 3, .int .i64 0, .int .i64 0, .string ⟨#[]⟩, .bool false, .int .i64 0]] W fun x w' => x = .returned (.int .i64 0) ∧ Below W.heap.size W w') (K1 : ∀ W : World, Calls Tryd.prog 8 #[.agg #[.int .i64 0, .int .i64 0, .int .i64 0, .string ⟨#[]⟩, .bool false, .int .i64 0], .agg #[.int .i64 3, .int .i64 0, .int .i64 0, .string ⟨#[]⟩, .bool false, .int .i64 0]] W fun x w' => x = .returned (.int .i64 0) ∧ Below W.heap.size W w') (K2 : ∀ W : World, Calls Tryd.prog 8 #[.agg #[.int .i64 3, .int .i64 0, .int .i64 0, .string ⟨#[]⟩, .bool false, .int .i64 0], .agg #[.int .i64 0, .int .i64 0, .int .i64 0, .string ⟨#[]⟩, .bool false, .int .i64 0]] W fun x w' => x = .returned (.int .i64 0) ∧ Below W.heap.size W w') :
    Calls Tryd.prog 4 #[.agg #[.int .i64 3, .int .i64 0, .int .i64 0, .string ⟨#[]⟩, .bool false, .int .i64 0]] w fun x w' => x = .returned (.bool true) ∧ Below w.heap.size w w' := by
  have HN := Lib.hid (fun W : World => known9_any (w := W))
  have HC := Lib.hid HK
  have H1 := Lib.hid K1
  have H2 := Lib.hid K2
  clear HK K1 K2
  have HB := Lib.hid (sb1 w 25 #[.int .i64 3, .int .i64 0, .int .i64 0, .string ⟨#[]⟩, .bool false, .int .i64 0])
  go_enter Tryd.func4, Tryd.ntmps4
  go_wp2_with fail
  refine (HN.out _).mono ?_
  rintro x w1 ⟨rfl, hb⟩
  have hB := HB.out.call hb
  clear hb HB
  have HB := Lib.hid hB
  clear hB
  have kv := HB.out.box (i := 0) rfl
  have cv0 := kv.cell 0
  have cv1 := kv.cell 1
  have cv2 := kv.cell 2
  have cv3 := kv.cell 3
  have cv4 := kv.cell 4
  have cv5 := kv.cell 5
  clear kv
  go_wp2_with fail
  refine (HC.out _ HB.out.bel).mono ?_
  rintro x w2 ⟨rfl, hb⟩
  have hB := HB.out.call hb
  clear hb HB
  have HB := Lib.hid hB
  clear hB
  clear cv0 cv1 cv2 cv3 cv4 cv5
  have hB := HB.out.alloc 25 #[.int .i64 0, .int .i64 0, .int .i64 0, .string ⟨#[]⟩, .bool false, .int .i64 0]
  clear HB
  have HB := Lib.hid hB
  clear hB
  have kv := HB.out.box (i := 1) rfl
  have cv0 := kv.cell 0
  have cv1 := kv.cell 1
  have cv2 := kv.cell 2
  have cv3 := kv.cell 3
  have cv4 := kv.cell 4
  have cv5 := kv.cell 5
  clear kv
  go_wp2_with fail
  refine (H1.out _).mono ?_
  rintro x w3 ⟨rfl, hb⟩
  have hB := HB.out.call hb
  clear hb HB
  have HB := Lib.hid hB
  clear hB
  clear cv0 cv1 cv2 cv3 cv4 cv5
  have kz := HB.out.box (i := 0) rfl
  have cz0 := kz.cell 0
  have cz1 := kz.cell 1
  have cz2 := kz.cell 2
  have cz3 := kz.cell 3
  have cz4 := kz.cell 4
  have cz5 := kz.cell 5
  clear kz
  have kv := HB.out.box (i := 1) rfl
  have cv0 := kv.cell 0
  have cv1 := kv.cell 1
  have cv2 := kv.cell 2
  have cv3 := kv.cell 3
  have cv4 := kv.cell 4
  have cv5 := kv.cell 5
  clear kv
  go_wp2_with fail
  refine (H2.out _).mono ?_
  rintro x w4 ⟨rfl, hb⟩
  have hB := HB.out.call hb
  clear hb HB
  have HB := Lib.hid hB
  clear hB
  clear cv0 cv1 cv2 cv3 cv4 cv5
  clear cz0 cz1 cz2 cz3 cz4 cz5
  have kv := HB.out.box (i := 1) rfl
  have cv0 := kv.cell 0
  have cv1 := kv.cell 1
  have cv2 := kv.cell 2
  have cv3 := kv.cell 3
  have cv4 := kv.cell 4
  have cv5 := kv.cell 5
  clear kv
  have hbel := HB.out.bel
  clear HB
  go_wp2
  go_ret
  exact ⟨rfl, hbel⟩

set_option maxRecDepth 20000 in
set_option maxHeartbeats 2000000 in
theorem blank_bool1 {w : World}  (HK : ∀ W : World, Below w.heap.size w W → Calls Tryd.prog 7 #[.agg #[.int .i64 3, .int .i64 0, .int .i64 0, .string ⟨#[]⟩, .bool true, .int .i64 0]] W fun x w' => x = .returned (.int .i64 0) ∧ Below W.heap.size W w') (K1 : ∀ W : World, Calls Tryd.prog 8 #[.agg #[.int .i64 0, .int .i64 0, .int .i64 0, .string ⟨#[]⟩, .bool false, .int .i64 0], .agg #[.int .i64 3, .int .i64 0, .int .i64 0, .string ⟨#[]⟩, .bool true, .int .i64 0]] W fun x w' => x = .returned (.int .i64 (-1)) ∧ Below W.heap.size W w') (K2 : ∀ W : World, Calls Tryd.prog 8 #[.agg #[.int .i64 3, .int .i64 0, .int .i64 0, .string ⟨#[]⟩, .bool true, .int .i64 0], .agg #[.int .i64 0, .int .i64 0, .int .i64 0, .string ⟨#[]⟩, .bool false, .int .i64 0]] W fun x w' => x = .returned (.int .i64 1) ∧ Below W.heap.size W w') :
    Calls Tryd.prog 4 #[.agg #[.int .i64 3, .int .i64 0, .int .i64 0, .string ⟨#[]⟩, .bool true, .int .i64 0]] w fun x w' => x = .returned (.bool true) ∧ Below w.heap.size w w' := by
  have HN := Lib.hid (fun W : World => known9_any (w := W))
  have HC := Lib.hid HK
  have H1 := Lib.hid K1
  have H2 := Lib.hid K2
  clear HK K1 K2
  have HB := Lib.hid (sb1 w 25 #[.int .i64 3, .int .i64 0, .int .i64 0, .string ⟨#[]⟩, .bool true, .int .i64 0])
  go_enter Tryd.func4, Tryd.ntmps4
  go_wp2_with fail
  refine (HN.out _).mono ?_
  rintro x w1 ⟨rfl, hb⟩
  have hB := HB.out.call hb
  clear hb HB
  have HB := Lib.hid hB
  clear hB
  have kv := HB.out.box (i := 0) rfl
  have cv0 := kv.cell 0
  have cv1 := kv.cell 1
  have cv2 := kv.cell 2
  have cv3 := kv.cell 3
  have cv4 := kv.cell 4
  have cv5 := kv.cell 5
  clear kv
  go_wp2_with fail
  refine (HC.out _ HB.out.bel).mono ?_
  rintro x w2 ⟨rfl, hb⟩
  have hB := HB.out.call hb
  clear hb HB
  have HB := Lib.hid hB
  clear hB
  clear cv0 cv1 cv2 cv3 cv4 cv5
  have hB := HB.out.alloc 25 #[.int .i64 0, .int .i64 0, .int .i64 0, .string ⟨#[]⟩, .bool false, .int .i64 0]
  clear HB
  have HB := Lib.hid hB
  clear hB
  have kv := HB.out.box (i := 1) rfl
  have cv0 := kv.cell 0
  have cv1 := kv.cell 1
  have cv2 := kv.cell 2
  have cv3 := kv.cell 3
  have cv4 := kv.cell 4
  have cv5 := kv.cell 5
  clear kv
  go_wp2_with fail
  refine (H1.out _).mono ?_
  rintro x w3 ⟨rfl, hb⟩
  have hB := HB.out.call hb
  clear hb HB
  have HB := Lib.hid hB
  clear hB
  clear cv0 cv1 cv2 cv3 cv4 cv5
  have kz := HB.out.box (i := 0) rfl
  have cz0 := kz.cell 0
  have cz1 := kz.cell 1
  have cz2 := kz.cell 2
  have cz3 := kz.cell 3
  have cz4 := kz.cell 4
  have cz5 := kz.cell 5
  clear kz
  have kv := HB.out.box (i := 1) rfl
  have cv0 := kv.cell 0
  have cv1 := kv.cell 1
  have cv2 := kv.cell 2
  have cv3 := kv.cell 3
  have cv4 := kv.cell 4
  have cv5 := kv.cell 5
  clear kv
  go_wp2_with fail
  refine (H2.out _).mono ?_
  rintro x w4 ⟨rfl, hb⟩
  have hB := HB.out.call hb
  clear hb HB
  have HB := Lib.hid hB
  clear hB
  clear cv0 cv1 cv2 cv3 cv4 cv5
  clear cz0 cz1 cz2 cz3 cz4 cz5
  have kv := HB.out.box (i := 1) rfl
  have cv0 := kv.cell 0
  have cv1 := kv.cell 1
  have cv2 := kv.cell 2
  have cv3 := kv.cell 3
  have cv4 := kv.cell 4
  have cv5 := kv.cell 5
  clear kv
  have hbel := HB.out.bel
  clear HB
  go_wp2
  go_ret
  exact ⟨rfl, hbel⟩

set_option maxRecDepth 20000 in
set_option maxHeartbeats 2000000 in
theorem blank_err {w : World} (e : Int) (HK : ∀ W : World, Below w.heap.size w W → Calls Tryd.prog 7 #[.agg #[.int .i64 4, .int .i64 0, .int .i64 0, .string ⟨#[]⟩, .bool false, .int .i64 e]] W fun x w' => x = .returned (.int .i64 0) ∧ Below W.heap.size W w') (K1 : ∀ W : World, Calls Tryd.prog 8 #[.agg #[.int .i64 0, .int .i64 0, .int .i64 0, .string ⟨#[]⟩, .bool false, .int .i64 0], .agg #[.int .i64 4, .int .i64 0, .int .i64 0, .string ⟨#[]⟩, .bool false, .int .i64 e]] W fun x w' => x = .returned (.int .i64 (-1)) ∧ Below W.heap.size W w') (K2 : ∀ W : World, Calls Tryd.prog 8 #[.agg #[.int .i64 4, .int .i64 0, .int .i64 0, .string ⟨#[]⟩, .bool false, .int .i64 e], .agg #[.int .i64 0, .int .i64 0, .int .i64 0, .string ⟨#[]⟩, .bool false, .int .i64 0]] W fun x w' => x = .returned (.int .i64 1) ∧ Below W.heap.size W w') :
    Calls Tryd.prog 4 #[.agg #[.int .i64 4, .int .i64 0, .int .i64 0, .string ⟨#[]⟩, .bool false, .int .i64 e]] w fun x w' => x = .returned (.bool true) ∧ Below w.heap.size w w' := by
  have HN := Lib.hid (fun W : World => known9_any (w := W))
  have HC := Lib.hid HK
  have H1 := Lib.hid K1
  have H2 := Lib.hid K2
  clear HK K1 K2
  have HB := Lib.hid (sb1 w 25 #[.int .i64 4, .int .i64 0, .int .i64 0, .string ⟨#[]⟩, .bool false, .int .i64 e])
  go_enter Tryd.func4, Tryd.ntmps4
  go_wp2_with fail
  refine (HN.out _).mono ?_
  rintro x w1 ⟨rfl, hb⟩
  have hB := HB.out.call hb
  clear hb HB
  have HB := Lib.hid hB
  clear hB
  have kv := HB.out.box (i := 0) rfl
  have cv0 := kv.cell 0
  have cv1 := kv.cell 1
  have cv2 := kv.cell 2
  have cv3 := kv.cell 3
  have cv4 := kv.cell 4
  have cv5 := kv.cell 5
  clear kv
  go_wp2_with fail
  refine (HC.out _ HB.out.bel).mono ?_
  rintro x w2 ⟨rfl, hb⟩
  have hB := HB.out.call hb
  clear hb HB
  have HB := Lib.hid hB
  clear hB
  clear cv0 cv1 cv2 cv3 cv4 cv5
  have hB := HB.out.alloc 25 #[.int .i64 0, .int .i64 0, .int .i64 0, .string ⟨#[]⟩, .bool false, .int .i64 0]
  clear HB
  have HB := Lib.hid hB
  clear hB
  have kv := HB.out.box (i := 1) rfl
  have cv0 := kv.cell 0
  have cv1 := kv.cell 1
  have cv2 := kv.cell 2
  have cv3 := kv.cell 3
  have cv4 := kv.cell 4
  have cv5 := kv.cell 5
  clear kv
  go_wp2_with fail
  refine (H1.out _).mono ?_
  rintro x w3 ⟨rfl, hb⟩
  have hB := HB.out.call hb
  clear hb HB
  have HB := Lib.hid hB
  clear hB
  clear cv0 cv1 cv2 cv3 cv4 cv5
  have kz := HB.out.box (i := 0) rfl
  have cz0 := kz.cell 0
  have cz1 := kz.cell 1
  have cz2 := kz.cell 2
  have cz3 := kz.cell 3
  have cz4 := kz.cell 4
  have cz5 := kz.cell 5
  clear kz
  have kv := HB.out.box (i := 1) rfl
  have cv0 := kv.cell 0
  have cv1 := kv.cell 1
  have cv2 := kv.cell 2
  have cv3 := kv.cell 3
  have cv4 := kv.cell 4
  have cv5 := kv.cell 5
  clear kv
  go_wp2_with fail
  refine (H2.out _).mono ?_
  rintro x w4 ⟨rfl, hb⟩
  have hB := HB.out.call hb
  clear hb HB
  have HB := Lib.hid hB
  clear hB
  clear cv0 cv1 cv2 cv3 cv4 cv5
  clear cz0 cz1 cz2 cz3 cz4 cz5
  have kv := HB.out.box (i := 1) rfl
  have cv0 := kv.cell 0
  have cv1 := kv.cell 1
  have cv2 := kv.cell 2
  have cv3 := kv.cell 3
  have cv4 := kv.cell 4
  have cv5 := kv.cell 5
  clear kv
  have hbel := HB.out.bel
  clear HB
  go_wp2
  go_ret
  exact ⟨rfl, hbel⟩

theorem valBlank_any {w : World} (HV : Val w) (k m s : Int) (t : ByteArray) (b : Bool) (e : Int) (m0 : -9223372036854775808 ≤ m) (m1 : m ≤ 9223372036854775807) :
    Calls Tryd.prog 4 #[.agg #[.int .i64 k, .int .i64 m, .int .i64 s, .string t, .bool b, .int .i64 e]] w fun x w' => x = .returned (.bool true) ∧ Below w.heap.size w w' := by
  by_cases hl : 1000 < t.size
  · exact blank_long k m s t b e hl
  · have hc : ∀ W : World, Below w.heap.size w W → Calls Tryd.prog 7 #[.agg #[.int .i64 k, .int .i64 m, .int .i64 s, .string t, .bool b, .int .i64 e]] W fun x w' => x = .returned (.int .i64 (ckV k m s t b e)) ∧ Below W.heap.size W w' := fun W hb => check_v (HV.below hb) k m s t b e (by omega)
    by_cases h0 : ckV k m s t b e = 0
    · rw [h0] at hc
      obtain ⟨x, hx, hsx, -, e0⟩ := ckV_form h0 m0 m1
      rw [e0] at hc ⊢
      have sx : shortX 10000000 x := by cases x <;> first | trivial | (have : _ ≤ t.size := hsx; show _ ≤ _; omega)
      have C1 : ∀ W : World, Calls Tryd.prog 8 #[xval .blank, xval x] W fun y w' => y = .returned (.int .i64 (cmpX .blank x)) ∧ Below W.heap.size W w' := fun W => cmpx_any trivial hx trivial sx
      have C2 : ∀ W : World, Calls Tryd.prog 8 #[xval x, xval .blank] W fun y w' => y = .returned (.int .i64 (- cmpX .blank x)) ∧ Below W.heap.size W w' := fun W => by
        have := cmpx_any (w := W) hx (b := .blank) trivial sx trivial
        rw [cmpX_neg .blank x] at this
        exact this
      cases x with
      | blank => exact blank_blank hc C1 C2
      | num m' s' =>
        have CD : ∀ W : World, Calls Tryd.prog 10 #[.agg #[.int .i64 0, .int .i64 0], .agg #[.int .i64 m', .int .i64 (s' : Nat)]] W fun y w' => y = .returned (.int .i64 (cmpX .blank (.num m' s'))) ∧ Below W.heap.size W w' := fun W => compare_any (w := W) (show Gd 0 0 from ⟨by decide, by decide, by decide, .inl rfl⟩) hx
        rcases cmpF_three (fillX .blank (.num m' s')) (fillX (.num m' s') .blank) with h | h | h
        · have h' : cmpX .blank (.num m' s') = -1 := h
          rw [h'] at C1 C2 CD
          exact blank_num_m m' s' CD hc C1 C2
        · have h' : cmpX .blank (.num m' s') = 0 := h
          rw [h'] at C1 C2 CD
          exact blank_num_z m' s' CD hc C1 C2
        · have h' : cmpX .blank (.num m' s') = 1 := h
          rw [h'] at C1 C2 CD
          exact blank_num_p m' s' CD hc C1 C2
      | str l =>
        have hll : l.length ≤ t.size := hsx
        by_cases hne : l = []
        · subst hne
          exact blank_str0 hc C1 C2
        · have h' : cmpX .blank (.str l) = -1 := by
            show cmpR [] (rns l) = -1
            rw [rns_step l hne]
            rfl
          rw [h'] at C1 C2
          exact blank_str l (by omega) hne hc C1 C2
      | bool b' =>
        cases b'
        · exact blank_bool0 hc C1 C2
        · exact blank_bool1 hc C1 C2
      | err e' => exact blank_err e' hc C1 C2
    · exact blank_bad k m s t b e _ (by omega) h0 hc
end Go.Proofs.YtmbjmgmnicacpaaDoor
