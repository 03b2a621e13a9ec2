/- cashbooklaw8.RefWords by its contract: it returns true. Condition: strconv.Itoa keeps its contract. -/
import Derived.Test.YtgjijjdpkmdcgaaDoorKnown8
namespace Go.Proofs.YtgjijjdpkmdcgaaDoor
open Go.RowKit

set_option maxRecDepth 20000 in
set_option maxHeartbeats 2000000 in
theorem words_long {w : World} (HV : Tens w) (s : ByteArray) (hlen : 100 < s.size) (e0 f0 : Int) :
    Calls Tryd.prog 5 #[.agg #[.int .i64 e0, .int .i64 f0], .string s] w fun e w' => e = .returned (.bool true) ∧ Below w.heap.size w w' := by
  have HK : Hid (∀ W : World, Below w.heap.size w W → Calls Tryd.prog 9 #[] W fun e w' => e = .returned (.bool true) ∧ Below W.heap.size W w') := Lib.hid (fun W hb => known8_any (HV.below hb))
  clear HV
  have hlen' : (100 : Int) < (s.size : Int) := by omega
  have HB : Hid (SB w 1 ([(w.heap.size, 25, #[.int .i64 e0, .int .i64 f0])] : List (Nat × TypeId × Array Value)) (w.alloc (.cells #[.int .i64 e0, .int .i64 f0] 25))) := Lib.hid (sb1 w 25 #[.int .i64 e0, .int .i64 f0])
  go_enter Tryd.func5, Tryd.ntmps5
  go_wp2_with fail
  refine (HK.out _ HB.out.bel).mono ?_
  rintro e w1 ⟨rfl, hb⟩
  have hB := HB.out.call hb
  clear hb HB
  have HB := Lib.hid hB
  clear hB
  have hbel := HB.out.bel
  go_wp2
  go_ret
  exact ⟨rfl, hbel⟩

set_option maxRecDepth 20000 in
set_option maxHeartbeats 2000000 in
theorem words_0_true {w : World} (HV : Tens w) (s : ByteArray) (hlen : ¬ 100 < s.size) {R C : Int}
    (HP : Hid (∀ W : World, Calls Tryd.prog 27 #[.string s] W fun e w' => e = .returned (.tuple #[.agg #[.int .i64 R, .int .i64 C], .int .i64 0]) ∧ Below W.heap.size W w'))
    (HQ : Hid (∀ W : World, Calls Tryd.prog 28 #[.string s] W fun e w' => e = .returned (.tuple #[.agg #[.int .i64 R, .int .i64 C], .int .i64 0]) ∧ Below W.heap.size W w'))
    (HT : Hid (∀ W : World, Below w.heap.size w W → Calls Tryd.prog 29 #[.agg #[.int .i64 R, .int .i64 C]] W fun e w' => e = .returned (.string s) ∧ Below W.heap.size W w'))
    (r0 c0 : Nat) (h0 : r0 < 65536) (h1 : c0 < 256) :
    Calls Tryd.prog 5 #[.agg #[.int .i64 (r0 : Nat), .int .i64 (c0 : Nat)], .string s] w fun e w' => e = .returned (.bool true) ∧ Below w.heap.size w w' := by
  have HK : Hid (∀ W : World, Below w.heap.size w W → Calls Tryd.prog 9 #[] W fun e w' => e = .returned (.bool true) ∧ Below W.heap.size W w') := Lib.hid (fun W hb => known8_any (HV.below hb))
  have HG : Hid (∀ W : World, Calls Tryd.prog 13 #[.agg #[.int .i64 (r0 : Nat), .int .i64 (c0 : Nat)]] W fun e w' => e = .returned (.bool true) ∧ Below W.heap.size W w') := Lib.hid (fun W => by
    have := good_any (w := W) r0 c0
    rw [gd_nat h0 h1] at this
    exact this)
  obtain ⟨sx, hx⟩ : ∃ b : ByteArray, (⟨(wordL r0 c0).toArray⟩ : ByteArray) = b := ⟨_, rfl⟩
  have hxl : sx.data.toList = wordL r0 c0 := by rw [← hx]
  have HTC : Hid (∀ W : World, Below w.heap.size w W → Calls Tryd.prog 29 #[.agg #[.int .i64 (r0 : Nat), .int .i64 (c0 : Nat)]] W fun e w' => e = .returned (.string sx) ∧ Below W.heap.size W w') := Lib.hid (fun W hb => by
    have := text_any (HV.below hb) r0 c0 h0 h1
    unfold sL at this
    rwa [hx] at this)
  have HCT : Hid (∀ W : World, Calls Tryd.prog 30 #[.agg #[.int .i64 (r0 : Nat), .int .i64 (c0 : Nat)]] W fun e w' => e = .returned (.string sx) ∧ Below W.heap.size W w') := Lib.hid (fun W => by
    have := bText_any (w := W) r0 c0 h0 h1
    unfold sL at this
    rwa [hx] at this)
  have hxs : sx.size ≤ 140737488355328 := by
    have h2 := colL_len c0
    have h3 := dig_len (r0 + 1)
    have h4 := congrArg List.length hxl
    unfold wordL at h4
    rw [List.length_append] at h4
    simp at h4
    omega
  have HPT : Hid (∀ W : World, Calls Tryd.prog 27 #[.string sx] W fun e w' => e = .returned (.tuple #[.agg #[.int .i64 (r0 : Nat), .int .i64 (c0 : Nat)], .int .i64 0]) ∧ Below W.heap.size W w') := Lib.hid (fun W => by
    have := parse_any (w := W) sx hxs
    obtain ⟨v1, v2, v3⟩ := pv_ok (r := r0 + 1) (c := c0 + 1) (by omega) (by omega)
    rw [hxl, mach_word r0 c0 h0 h1, v1, v2, v3] at this
    unfold parV at this
    rw [show ((r0 + 1 : Nat) : Int) - 1 = (r0 : Int) by omega, show ((c0 + 1 : Nat) : Int) - 1 = (c0 : Int) by omega] at this
    exact this)
  have HOC := Lib.hid (fun W : World => ofCell_any (w := W) r0 c0)
  clear hx hxl hxs
  have HOR := Lib.hid (fun W : World => ofCell_any (w := W) R C)
  clear HV
  have hlen' : ¬ (100 : Int) < (s.size : Int) := by omega
  have HB : Hid (SB w 1 ([(w.heap.size, 25, #[.int .i64 (r0 : Nat), .int .i64 (c0 : Nat)])] : List (Nat × TypeId × Array Value)) (w.alloc (.cells #[.int .i64 (r0 : Nat), .int .i64 (c0 : Nat)] 25))) := Lib.hid (sb1 w 25 #[.int .i64 (r0 : Nat), .int .i64 (c0 : Nat)])
  go_enter Tryd.func5, Tryd.ntmps5
  go_wp2_with fail
  refine (HK.out _ HB.out.bel).mono ?_
  rintro e w1 ⟨rfl, hb⟩
  have hB := HB.out.call hb
  clear hb HB
  have HB := Lib.hid hB
  clear hB
  go_wp2_with fail
  refine (HP.out _).mono ?_
  rintro e w2 ⟨rfl, hb⟩
  have hB := HB.out.call hb
  have hB := hB.alloc 25 #[.int .i64 R, .int .i64 C]
  clear hb HB
  have HB := Lib.hid hB
  clear hB
  go_wp2_with fail
  refine (HQ.out _).mono ?_
  rintro e w3 ⟨rfl, hb⟩
  have hB := HB.out.call hb
  have hB := hB.alloc 34 #[.int .i64 R, .int .i64 C]
  clear hb HB
  have HB := Lib.hid hB
  clear hB
  clear HK HP HQ
  go_wp2_with fail
  refine wp_region_phases (S := (fun vals W => SX w 1 ([] : List Stp) vals ([(w3.heap.size, 34, #[.int .i64 R, .int .i64 C]), (w2.heap.size, 25, #[.int .i64 R, .int .i64 C]), (w.heap.size, 25, #[.int .i64 (r0 : Nat), .int .i64 (c0 : Nat)])] : List (Nat × TypeId × Array Value)) W)) (E := (fun _ _ => True)) [] [(1, Is (.string s)), (2, Is (.pointer (some ⟨w.heap.size, 0, none⟩))), (5, Is (.pointer (some ⟨w2.heap.size, 0, none⟩))), (6, Is (.int .i64 0)), (7, Is (.pointer (some ⟨w3.heap.size, 0, none⟩))), (8, Is (.int .i64 0))] [(26, Is (.int .i64 0)), (27, Is (.int .i64 0)), (28, Is (.bool false)), (29, Is (.bool false)), (30, Is (.agg #[.int .i64 R, .int .i64 C])), (31, Is (.agg #[.int .i64 R, .int .i64 C])), (32, Is (.agg #[.int .i64 R, .int .i64 C])), (33, Is (.bool false)), (34, Is (.bool false)), (35, Is (.bool false)), (36, Is (.int .i64 0)), (37, Is (.bool true)), (38, Is (.bool true)), (39, Is (.agg #[.int .i64 R, .int .i64 C])), (40, Is (.string s)), (41, Is (.string s)), (42, Is (.bool false)), (43, Is (.bool false)), (44, Is (.bool false))]
    [.op [6] none, .op [8] none, .op [26, 27] none, .op [28] none, .op [5, 29] (some (29, false)), .op [30, 29] (some (29, false)), .op [7, 29] (some (29, false)), .op [31, 32, 29] (some (29, false)), .op [29, 33] none, .op [34] none, .op [8, 35] (some (35, false)), .op [36, 35] (some (35, false)), .op [37, 35] (some (35, false)), .op [5, 38] (some (38, true)), .op [39, 38] (some (38, true)), .op [1, 38] (some (38, true)), .op [40, 41, 38] (some (38, true)), .op [38, 42, 35] (some (35, false)), .op [35, 43] none] (by as_aux_lemma => kernel_rfl) ?_ ?_ ?_ ?_ ?_ ⟨stable_is _ _, stable_is _ _, stable_is _ _, stable_is _ _, stable_is _ _, stable_is _ _, stable_is _ _, stable_is _ _, stable_is _ _, stable_is _ _, stable_is _ _, stable_is _ _, stable_is _ _, stable_is _ _, stable_is _ _, stable_is _ _, stable_is _ _, stable_is _ _, stable_is _ _, stable_is _ _, stable_is _ _, stable_is _ _, stable_is _ _, stable_is _ _, stable_is _ _, trivial⟩ ?_ (HB.out.drew) ?_ ?_
  · as_aux_lemma => kernel_rfl
  · as_aux_lemma => kernel_rfl
  · as_aux_lemma => kernel_rfl
  · as_aux_lemma => kernel_rfl
  · as_aux_lemma => kernel_rfl
  · exact ⟨rfl, rfl, rfl, rfl, rfl, rfl, trivial⟩
  · refine ⟨?_, ?_, ?_, ?_, ?_, ?_, ?_, ?_, ?_, ?_, ?_, ?_, ?_, ?_, ?_, ?_, ?_, ?_, ?_, trivial⟩
    · as_aux_lemma =>
        intro vals a W hS hL
        have e6 : a.tmps.getD 6 undef = .int .i64 0 := hL.1
        clear hL
        go_simp
        exact ⟨⟨fun d hd => by injection hd with hd; subst hd; rfl, fun h => by cases h⟩, hS, trivial⟩
    · as_aux_lemma =>
        intro vals a W hS hL
        have e8 : a.tmps.getD 8 undef = .int .i64 0 := hL.1
        clear hL
        go_simp
        exact ⟨⟨fun d hd => by injection hd with hd; subst hd; rfl, fun h => by cases h⟩, hS, trivial⟩
    · as_aux_lemma =>
        intro vals a W hS hL
        have e26 : a.tmps.getD 26 undef = .int .i64 0 := hL.1
        have e27 : a.tmps.getD 27 undef = .int .i64 0 := hL.2.1
        clear hL
        go_simp
        exact ⟨⟨fun d hd => by injection hd with hd; subst hd; rfl, fun h => by cases h⟩, hS, trivial⟩
    · as_aux_lemma =>
        intro vals a W hS hL
        have e28 : a.tmps.getD 28 undef = .bool false := hL.1
        clear hL
        go_simp
        exact ⟨⟨fun d hd => by injection hd with hd; subst hd; rfl, fun h => by cases h⟩, hS, trivial⟩
    · as_aux_lemma =>
        intro vals a W hS hL
        have e5 : a.tmps.getD 5 undef = .pointer (some ⟨w2.heap.size, 0, none⟩) := hL.1
        have e29 : a.tmps.getD 29 undef = .bool false := hL.2.1
        clear hL
        refine ⟨false, e29, ?_⟩
        rw [if_pos rfl]
        have kb : Bk W (w2.heap.size) 25 #[.int .i64 R, .int .i64 C] := hS.bk 1 rfl rfl
        have f0 := kb.cell 0
        have f1 := kb.cell 1
        clear kb
        go_simp
        exact ⟨⟨fun d hd => by injection hd with hd; subst hd; rfl, fun h => by cases h⟩, hS, trivial⟩
    · as_aux_lemma =>
        intro vals a W hS hL
        have e30 : a.tmps.getD 30 undef = .agg #[.int .i64 R, .int .i64 C] := hL.1
        have e29 : a.tmps.getD 29 undef = .bool false := hL.2.1
        clear hL
        refine ⟨false, e29, ?_⟩
        rw [if_pos rfl]
        go_simp
        refine (HOR.out W).mono ?_
        rintro e W' ⟨rfl, hb⟩
        exact ⟨_, rfl, ⟨fun d hd => by injection hd with hd; subst hd; rfl, fun h => by cases h⟩, hS.call hb, trivial⟩
    · as_aux_lemma =>
        intro vals a W hS hL
        have e7 : a.tmps.getD 7 undef = .pointer (some ⟨w3.heap.size, 0, none⟩) := hL.1
        have e29 : a.tmps.getD 29 undef = .bool false := hL.2.1
        clear hL
        refine ⟨false, e29, ?_⟩
        rw [if_pos rfl]
        have kb : Bk W (w3.heap.size) 34 #[.int .i64 R, .int .i64 C] := hS.bk 0 rfl rfl
        have f0 := kb.cell 0
        have f1 := kb.cell 1
        clear kb
        go_simp
        exact ⟨⟨fun d hd => by injection hd with hd; subst hd; rfl, fun h => by cases h⟩, hS, trivial⟩
    · as_aux_lemma =>
        intro vals a W hS hL
        have e31 : a.tmps.getD 31 undef = .agg #[.int .i64 R, .int .i64 C] := hL.1
        have e32 : a.tmps.getD 32 undef = .agg #[.int .i64 R, .int .i64 C] := hL.2.1
        have e29 : a.tmps.getD 29 undef = .bool false := hL.2.2.1
        clear hL
        refine ⟨false, e29, ?_⟩
        rw [if_pos rfl]
        go_simp
        exact ⟨⟨fun d hd => by injection hd with hd; subst hd; rfl, fun h => by cases h⟩, hS, trivial⟩
    · as_aux_lemma =>
        intro vals a W hS hL
        have e29 : a.tmps.getD 29 undef = .bool false := hL.1
        have e33 : a.tmps.getD 33 undef = .bool false := hL.2.1
        clear hL
        go_simp
        exact ⟨⟨fun d hd => by injection hd with hd; subst hd; rfl, fun h => by cases h⟩, hS, trivial⟩
    · as_aux_lemma =>
        intro vals a W hS hL
        have e34 : a.tmps.getD 34 undef = .bool false := hL.1
        clear hL
        go_simp
        exact ⟨⟨fun d hd => by injection hd with hd; subst hd; rfl, fun h => by cases h⟩, hS, trivial⟩
    · as_aux_lemma =>
        intro vals a W hS hL
        have e8 : a.tmps.getD 8 undef = .int .i64 0 := hL.1
        have e35 : a.tmps.getD 35 undef = .bool false := hL.2.1
        clear hL
        refine ⟨false, e35, ?_⟩
        rw [if_pos rfl]
        go_simp
        exact ⟨⟨fun d hd => by injection hd with hd; subst hd; rfl, fun h => by cases h⟩, hS, trivial⟩
    · as_aux_lemma =>
        intro vals a W hS hL
        have e36 : a.tmps.getD 36 undef = .int .i64 0 := hL.1
        have e35 : a.tmps.getD 35 undef = .bool false := hL.2.1
        clear hL
        refine ⟨false, e35, ?_⟩
        rw [if_pos rfl]
        go_simp
        exact ⟨⟨fun d hd => by injection hd with hd; subst hd; rfl, fun h => by cases h⟩, hS, trivial⟩
    · as_aux_lemma =>
        intro vals a W hS hL
        have e37 : a.tmps.getD 37 undef = .bool true := hL.1
        have e35 : a.tmps.getD 35 undef = .bool false := hL.2.1
        clear hL
        refine ⟨false, e35, ?_⟩
        rw [if_pos rfl]
        go_simp
        exact ⟨⟨fun d hd => by injection hd with hd; subst hd; rfl, fun h => by cases h⟩, hS, trivial⟩
    · as_aux_lemma =>
        intro vals a W hS hL
        have e5 : a.tmps.getD 5 undef = .pointer (some ⟨w2.heap.size, 0, none⟩) := hL.1
        have e38 : a.tmps.getD 38 undef = .bool true := hL.2.1
        clear hL
        refine ⟨true, e38, ?_⟩
        rw [if_pos rfl]
        have kb : Bk W (w2.heap.size) 25 #[.int .i64 R, .int .i64 C] := hS.bk 1 rfl rfl
        have f0 := kb.cell 0
        have f1 := kb.cell 1
        clear kb
        go_simp
        exact ⟨⟨fun d hd => by injection hd with hd; subst hd; rfl, fun h => by cases h⟩, hS, trivial⟩
    · as_aux_lemma =>
        intro vals a W hS hL
        have e39 : a.tmps.getD 39 undef = .agg #[.int .i64 R, .int .i64 C] := hL.1
        have e38 : a.tmps.getD 38 undef = .bool true := hL.2.1
        clear hL
        refine ⟨true, e38, ?_⟩
        rw [if_pos rfl]
        go_simp
        refine (HT.out _ (SX.bel hS)).mono ?_
        rintro e W' ⟨rfl, hb⟩
        exact ⟨_, rfl, ⟨fun d hd => by injection hd with hd; subst hd; rfl, fun h => by cases h⟩, hS.call hb, trivial⟩
    · as_aux_lemma =>
        intro vals a W hS hL
        have e1 : a.tmps.getD 1 undef = .string s := hL.1
        have e38 : a.tmps.getD 38 undef = .bool true := hL.2.1
        clear hL
        refine ⟨true, e38, ?_⟩
        rw [if_pos rfl]
        go_simp
        exact ⟨⟨fun d hd => by injection hd with hd; subst hd; rfl, fun h => by cases h⟩, hS, trivial⟩
    · as_aux_lemma =>
        intro vals a W hS hL
        have e40 : a.tmps.getD 40 undef = .string s := hL.1
        have e41 : a.tmps.getD 41 undef = .string s := hL.2.1
        have e38 : a.tmps.getD 38 undef = .bool true := hL.2.2.1
        clear hL
        refine ⟨true, e38, ?_⟩
        rw [if_pos rfl]
        go_simp
        exact ⟨⟨fun d hd => by injection hd with hd; subst hd; rfl, fun h => by cases h⟩, hS, trivial⟩
    · as_aux_lemma =>
        intro vals a W hS hL
        have e38 : a.tmps.getD 38 undef = .bool true := hL.1
        have e42 : a.tmps.getD 42 undef = .bool false := hL.2.1
        have e35 : a.tmps.getD 35 undef = .bool false := hL.2.2.1
        clear hL
        refine ⟨false, e35, ?_⟩
        rw [if_pos rfl]
        go_simp
        exact ⟨⟨fun d hd => by injection hd with hd; subst hd; rfl, fun h => by cases h⟩, hS, trivial⟩
    · as_aux_lemma =>
        intro vals a W hS hL
        have e35 : a.tmps.getD 35 undef = .bool false := hL.1
        have e43 : a.tmps.getD 43 undef = .bool false := hL.2.1
        clear hL
        go_simp
        exact ⟨⟨fun d hd => by injection hd with hd; subst hd; rfl, fun h => by cases h⟩, hS, trivial⟩
  · intro a W' vals hd hsz hT hF hv hP hS
    obtain rfl : vals = [] := List.eq_nil_of_length_eq_zero hv
    have hS2 : SX w 1 ([] : List Stp) [] ([(w3.heap.size, 34, #[.int .i64 R, .int .i64 C]), (w2.heap.size, 25, #[.int .i64 R, .int .i64 C]), (w.heap.size, 25, #[.int .i64 (r0 : Nat), .int .i64 (c0 : Nat)])] : List (Nat × TypeId × Array Value)) W' := hS
    clear hS
    have hB0 := hS2
    have hB : SB w 1 ([(w3.heap.size, 34, #[.int .i64 R, .int .i64 C]), (w2.heap.size, 25, #[.int .i64 R, .int .i64 C]), (w.heap.size, 25, #[.int .i64 (r0 : Nat), .int .i64 (c0 : Nat)])] : List (Nat × TypeId × Array Value)) W' := hB0
    clear hB0
    have e1 : a.tmps.getD 1 undef = .string s := hT 1 (by simp)
    have e2 : a.tmps.getD 2 undef = .pointer (some ⟨w.heap.size, 0, none⟩) := hT 2 (by simp)
    have e44 : a.tmps.getD 44 undef = .bool false := hT 44 (by simp)
    clear hT hF hP
    rw [act_lit 69 a hd hsz]
    simp only [List.range, List.range.loop, List.map, e1, e2, e44]
    clear hd hsz e1 e2 e44
    have HB4 := Lib.hid hB
    clear HB hB HOR HT
    have HB := HB4
    clear HB4
    have kc := HB.out.box (i := 2) rfl
    have cc0 := kc.cell 0
    have cc1 := kc.cell 1
    clear kc
    go_wp2_with fail
    refine (HG.out _).mono ?_
    rintro e w5 ⟨rfl, hb⟩
    have hB := HB.out.call hb
    clear hb HB
    have HB := Lib.hid hB
    clear hB
    clear cc0 cc1 HG
    have kc := HB.out.box (i := 2) rfl
    have cc0 := kc.cell 0
    have cc1 := kc.cell 1
    clear kc
    go_wp2_with fail
    refine (HTC.out _ HB.out.bel).mono ?_
    rintro e w6 ⟨rfl, hb⟩
    have hB := HB.out.call hb
    clear hb HB
    have HB := Lib.hid hB
    clear hB
    go_wp2_with fail
    refine (HPT.out _).mono ?_
    rintro e w7 ⟨rfl, hb⟩
    have hB := HB.out.call hb
    have hB := hB.alloc 25 #[.int .i64 (r0 : Nat), .int .i64 (c0 : Nat)]
    clear hb HB
    have HB := Lib.hid hB
    clear hB
    clear cc0 cc1 HPT
    go_wp2_with fail
    refine wp_region_phases (S := (fun vals W => SX w 1 ([] : List Stp) vals ([(w7.heap.size, 25, #[.int .i64 (r0 : Nat), .int .i64 (c0 : Nat)]), (w3.heap.size, 34, #[.int .i64 R, .int .i64 C]), (w2.heap.size, 25, #[.int .i64 R, .int .i64 C]), (w.heap.size, 25, #[.int .i64 (r0 : Nat), .int .i64 (c0 : Nat)])] : List (Nat × TypeId × Array Value)) W)) (E := (fun _ _ => True)) [] [(2, Is (.pointer (some ⟨w.heap.size, 0, none⟩))), (9, Is (.pointer (some ⟨w7.heap.size, 0, none⟩))), (10, Is (.int .i64 0))] [(54, Is (.agg #[.int .i64 (r0 : Nat), .int .i64 (c0 : Nat)])), (55, Is (.string sx)), (56, Is (.agg #[.int .i64 (r0 : Nat), .int .i64 (c0 : Nat)])), (57, Is (.agg #[.int .i64 (r0 : Nat), .int .i64 (c0 : Nat)])), (58, Is (.string sx)), (59, Is (.bool true)), (60, Is (.bool true)), (61, Is (.int .i64 0)), (62, Is (.bool true)), (63, Is (.bool true)), (64, Is (.bool true)), (65, Is (.agg #[.int .i64 (r0 : Nat), .int .i64 (c0 : Nat)])), (66, Is (.agg #[.int .i64 (r0 : Nat), .int .i64 (c0 : Nat)])), (67, Is (.bool true)), (68, Is (.bool true)), (4, Is (.bool true))]
      [.op [2] none, .op [54] none, .op [2] none, .op [56] none, .op [57] none, .op [55, 58] none, .op [59] none, .op [10, 60] (some (60, true)), .op [61, 60] (some (60, true)), .op [60, 62] none, .op [63] none, .op [9, 64] (some (64, true)), .op [2, 64] (some (64, true)), .op [65, 66, 64] (some (64, true)), .op [64, 67] none, .op [68] none] (by as_aux_lemma => kernel_rfl) ?_ ?_ ?_ ?_ ?_ ⟨stable_is _ _, stable_is _ _, stable_is _ _, stable_is _ _, stable_is _ _, stable_is _ _, stable_is _ _, stable_is _ _, stable_is _ _, stable_is _ _, stable_is _ _, stable_is _ _, stable_is _ _, stable_is _ _, stable_is _ _, stable_is _ _, stable_is _ _, stable_is _ _, stable_is _ _, trivial⟩ ?_ (HB.out.drew) ?_ ?_
    · as_aux_lemma => kernel_rfl
    · as_aux_lemma => kernel_rfl
    · as_aux_lemma => kernel_rfl
    · as_aux_lemma => kernel_rfl
    · as_aux_lemma => kernel_rfl
    · exact ⟨rfl, rfl, rfl, trivial⟩
    · refine ⟨?_, ?_, ?_, ?_, ?_, ?_, ?_, ?_, ?_, ?_, ?_, ?_, ?_, ?_, ?_, ?_, trivial⟩
      · as_aux_lemma =>
          intro vals a W hS hL
          have e2 : a.tmps.getD 2 undef = .pointer (some ⟨w.heap.size, 0, none⟩) := hL.1
          clear hL
          have kb : Bk W (w.heap.size) 25 #[.int .i64 (r0 : Nat), .int .i64 (c0 : Nat)] := hS.bk 3 rfl rfl
          have f0 := kb.cell 0
          have f1 := kb.cell 1
          clear kb
          go_simp
          exact ⟨⟨fun d hd => by injection hd with hd; subst hd; rfl, fun h => by cases h⟩, hS, trivial⟩
      · as_aux_lemma =>
          intro vals a W hS hL
          have e54 : a.tmps.getD 54 undef = .agg #[.int .i64 (r0 : Nat), .int .i64 (c0 : Nat)] := hL.1
          clear hL
          go_simp
          refine (HTC.out _ (SX.bel hS)).mono ?_
          rintro e W' ⟨rfl, hb⟩
          exact ⟨_, rfl, ⟨fun d hd => by injection hd with hd; subst hd; rfl, fun h => by cases h⟩, hS.call hb, trivial⟩
      · as_aux_lemma =>
          intro vals a W hS hL
          have e2 : a.tmps.getD 2 undef = .pointer (some ⟨w.heap.size, 0, none⟩) := hL.1
          clear hL
          have kb : Bk W (w.heap.size) 25 #[.int .i64 (r0 : Nat), .int .i64 (c0 : Nat)] := hS.bk 3 rfl rfl
          have f0 := kb.cell 0
          have f1 := kb.cell 1
          clear kb
          go_simp
          exact ⟨⟨fun d hd => by injection hd with hd; subst hd; rfl, fun h => by cases h⟩, hS, trivial⟩
      · as_aux_lemma =>
          intro vals a W hS hL
          have e56 : a.tmps.getD 56 undef = .agg #[.int .i64 (r0 : Nat), .int .i64 (c0 : Nat)] := hL.1
          clear hL
          go_simp
          refine (HOC.out W).mono ?_
          rintro e W' ⟨rfl, hb⟩
          exact ⟨_, rfl, ⟨fun d hd => by injection hd with hd; subst hd; rfl, fun h => by cases h⟩, hS.call hb, trivial⟩
      · as_aux_lemma =>
          intro vals a W hS hL
          have e57 : a.tmps.getD 57 undef = .agg #[.int .i64 (r0 : Nat), .int .i64 (c0 : Nat)] := hL.1
          clear hL
          go_simp
          refine (HCT.out W).mono ?_
          rintro e W' ⟨rfl, hb⟩
          exact ⟨_, rfl, ⟨fun d hd => by injection hd with hd; subst hd; rfl, fun h => by cases h⟩, hS.call hb, trivial⟩
      · as_aux_lemma =>
          intro vals a W hS hL
          have e55 : a.tmps.getD 55 undef = .string sx := hL.1
          have e58 : a.tmps.getD 58 undef = .string sx := hL.2.1
          clear hL
          go_simp
          exact ⟨⟨fun d hd => by injection hd with hd; subst hd; rfl, fun h => by cases h⟩, hS, trivial⟩
      · as_aux_lemma =>
          intro vals a W hS hL
          have e59 : a.tmps.getD 59 undef = .bool true := hL.1
          clear hL
          go_simp
          exact ⟨⟨fun d hd => by injection hd with hd; subst hd; rfl, fun h => by cases h⟩, hS, trivial⟩
      · as_aux_lemma =>
          intro vals a W hS hL
          have e10 : a.tmps.getD 10 undef = .int .i64 0 := hL.1
          have e60 : a.tmps.getD 60 undef = .bool true := hL.2.1
          clear hL
          refine ⟨true, e60, ?_⟩
          rw [if_pos rfl]
          go_simp
          exact ⟨⟨fun d hd => by injection hd with hd; subst hd; rfl, fun h => by cases h⟩, hS, trivial⟩
      · as_aux_lemma =>
          intro vals a W hS hL
          have e61 : a.tmps.getD 61 undef = .int .i64 0 := hL.1
          have e60 : a.tmps.getD 60 undef = .bool true := hL.2.1
          clear hL
          refine ⟨true, e60, ?_⟩
          rw [if_pos rfl]
          go_simp
          exact ⟨⟨fun d hd => by injection hd with hd; subst hd; rfl, fun h => by cases h⟩, hS, trivial⟩
      · as_aux_lemma =>
          intro vals a W hS hL
          have e60 : a.tmps.getD 60 undef = .bool true := hL.1
          have e62 : a.tmps.getD 62 undef = .bool true := hL.2.1
          clear hL
          go_simp
          exact ⟨⟨fun d hd => by injection hd with hd; subst hd; rfl, fun h => by cases h⟩, hS, trivial⟩
      · as_aux_lemma =>
          intro vals a W hS hL
          have e63 : a.tmps.getD 63 undef = .bool true := hL.1
          clear hL
          go_simp
          exact ⟨⟨fun d hd => by injection hd with hd; subst hd; rfl, fun h => by cases h⟩, hS, trivial⟩
      · as_aux_lemma =>
          intro vals a W hS hL
          have e9 : a.tmps.getD 9 undef = .pointer (some ⟨w7.heap.size, 0, none⟩) := hL.1
          have e64 : a.tmps.getD 64 undef = .bool true := hL.2.1
          clear hL
          refine ⟨true, e64, ?_⟩
          rw [if_pos rfl]
          have kb : Bk W (w7.heap.size) 25 #[.int .i64 (r0 : Nat), .int .i64 (c0 : Nat)] := hS.bk 0 rfl rfl
          have f0 := kb.cell 0
          have f1 := kb.cell 1
          clear kb
          go_simp
          exact ⟨⟨fun d hd => by injection hd with hd; subst hd; rfl, fun h => by cases h⟩, hS, trivial⟩
      · as_aux_lemma =>
          intro vals a W hS hL
          have e2 : a.tmps.getD 2 undef = .pointer (some ⟨w.heap.size, 0, none⟩) := hL.1
          have e64 : a.tmps.getD 64 undef = .bool true := hL.2.1
          clear hL
          refine ⟨true, e64, ?_⟩
          rw [if_pos rfl]
          have kb : Bk W (w.heap.size) 25 #[.int .i64 (r0 : Nat), .int .i64 (c0 : Nat)] := hS.bk 3 rfl rfl
          have f0 := kb.cell 0
          have f1 := kb.cell 1
          clear kb
          go_simp
          exact ⟨⟨fun d hd => by injection hd with hd; subst hd; rfl, fun h => by cases h⟩, hS, trivial⟩
      · as_aux_lemma =>
          intro vals a W hS hL
          have e65 : a.tmps.getD 65 undef = .agg #[.int .i64 (r0 : Nat), .int .i64 (c0 : Nat)] := hL.1
          have e66 : a.tmps.getD 66 undef = .agg #[.int .i64 (r0 : Nat), .int .i64 (c0 : Nat)] := hL.2.1
          have e64 : a.tmps.getD 64 undef = .bool true := hL.2.2.1
          clear hL
          refine ⟨true, e64, ?_⟩
          rw [if_pos rfl]
          go_simp
          exact ⟨⟨fun d hd => by injection hd with hd; subst hd; rfl, fun h => by cases h⟩, hS, trivial⟩
      · as_aux_lemma =>
          intro vals a W hS hL
          have e64 : a.tmps.getD 64 undef = .bool true := hL.1
          have e67 : a.tmps.getD 67 undef = .bool true := hL.2.1
          clear hL
          go_simp
          exact ⟨⟨fun d hd => by injection hd with hd; subst hd; rfl, fun h => by cases h⟩, hS, trivial⟩
      · as_aux_lemma =>
          intro vals a W hS hL
          have e68 : a.tmps.getD 68 undef = .bool true := hL.1
          clear hL
          go_simp
          exact ⟨⟨fun d hd => by injection hd with hd; subst hd; rfl, fun h => by cases h⟩, hS, trivial⟩
    · intro a W' vals hd hsz hT hF hv hP hS
      obtain rfl : vals = [] := List.eq_nil_of_length_eq_zero hv
      have hS2 : SX w 1 ([] : List Stp) [] ([(w7.heap.size, 25, #[.int .i64 (r0 : Nat), .int .i64 (c0 : Nat)]), (w3.heap.size, 34, #[.int .i64 R, .int .i64 C]), (w2.heap.size, 25, #[.int .i64 R, .int .i64 C]), (w.heap.size, 25, #[.int .i64 (r0 : Nat), .int .i64 (c0 : Nat)])] : List (Nat × TypeId × Array Value)) W' := hS
      clear hS
      have hB0 := hS2
      have hB : SB w 1 ([(w7.heap.size, 25, #[.int .i64 (r0 : Nat), .int .i64 (c0 : Nat)]), (w3.heap.size, 34, #[.int .i64 R, .int .i64 C]), (w2.heap.size, 25, #[.int .i64 R, .int .i64 C]), (w.heap.size, 25, #[.int .i64 (r0 : Nat), .int .i64 (c0 : Nat)])] : List (Nat × TypeId × Array Value)) W' := hB0
      clear hB0
      have e4 : a.tmps.getD 4 undef = .bool true := hT 4 (by simp)
      clear hT hF hP
      go_wp2
      refine bodyPost_ret (v := .bool true) ?_ hd ⟨rfl, hB.bel⟩
      rw [Array.getD_eq_getD_getElem?] at e4
      simp [results, Tryd.results5, go_sem, e4]

set_option maxRecDepth 20000 in
set_option maxHeartbeats 2000000 in
theorem words_0_false {w : World} (HV : Tens w) (s : ByteArray) (hlen : ¬ 100 < s.size) {R C : Int}
    (HP : Hid (∀ W : World, Calls Tryd.prog 27 #[.string s] W fun e w' => e = .returned (.tuple #[.agg #[.int .i64 R, .int .i64 C], .int .i64 0]) ∧ Below W.heap.size W w'))
    (HQ : Hid (∀ W : World, Calls Tryd.prog 28 #[.string s] W fun e w' => e = .returned (.tuple #[.agg #[.int .i64 R, .int .i64 C], .int .i64 0]) ∧ Below W.heap.size W w'))
    (HT : Hid (∀ W : World, Below w.heap.size w W → Calls Tryd.prog 29 #[.agg #[.int .i64 R, .int .i64 C]] W fun e w' => e = .returned (.string s) ∧ Below W.heap.size W w'))
    (e0 f0 : Int) (hg : gdB e0 f0 = false) :
    Calls Tryd.prog 5 #[.agg #[.int .i64 e0, .int .i64 f0], .string s] w fun e w' => e = .returned (.bool true) ∧ Below w.heap.size w w' := by
  have HK : Hid (∀ W : World, Below w.heap.size w W → Calls Tryd.prog 9 #[] W fun e w' => e = .returned (.bool true) ∧ Below W.heap.size W w') := Lib.hid (fun W hb => known8_any (HV.below hb))
  have HG : Hid (∀ W : World, Calls Tryd.prog 13 #[.agg #[.int .i64 e0, .int .i64 f0]] W fun e w' => e = .returned (.bool false) ∧ Below W.heap.size W w') := Lib.hid (fun W => by
    have := good_any (w := W) e0 f0
    rw [hg] at this
    exact this)
  clear hg
  have HOR := Lib.hid (fun W : World => ofCell_any (w := W) R C)
  clear HV
  have hlen' : ¬ (100 : Int) < (s.size : Int) := by omega
  have HB : Hid (SB w 1 ([(w.heap.size, 25, #[.int .i64 e0, .int .i64 f0])] : List (Nat × TypeId × Array Value)) (w.alloc (.cells #[.int .i64 e0, .int .i64 f0] 25))) := Lib.hid (sb1 w 25 #[.int .i64 e0, .int .i64 f0])
  go_enter Tryd.func5, Tryd.ntmps5
  go_wp2_with fail
  refine (HK.out _ HB.out.bel).mono ?_
  rintro e w1 ⟨rfl, hb⟩
  have hB := HB.out.call hb
  clear hb HB
  have HB := Lib.hid hB
  clear hB
  go_wp2_with fail
  refine (HP.out _).mono ?_
  rintro e w2 ⟨rfl, hb⟩
  have hB := HB.out.call hb
  have hB := hB.alloc 25 #[.int .i64 R, .int .i64 C]
  clear hb HB
  have HB := Lib.hid hB
  clear hB
  go_wp2_with fail
  refine (HQ.out _).mono ?_
  rintro e w3 ⟨rfl, hb⟩
  have hB := HB.out.call hb
  have hB := hB.alloc 34 #[.int .i64 R, .int .i64 C]
  clear hb HB
  have HB := Lib.hid hB
  clear hB
  clear HK HP HQ
  go_wp2_with fail
  refine wp_region_phases (S := (fun vals W => SX w 1 ([] : List Stp) vals ([(w3.heap.size, 34, #[.int .i64 R, .int .i64 C]), (w2.heap.size, 25, #[.int .i64 R, .int .i64 C]), (w.heap.size, 25, #[.int .i64 e0, .int .i64 f0])] : List (Nat × TypeId × Array Value)) W)) (E := (fun _ _ => True)) [] [(1, Is (.string s)), (2, Is (.pointer (some ⟨w.heap.size, 0, none⟩))), (5, Is (.pointer (some ⟨w2.heap.size, 0, none⟩))), (6, Is (.int .i64 0)), (7, Is (.pointer (some ⟨w3.heap.size, 0, none⟩))), (8, Is (.int .i64 0))] [(26, Is (.int .i64 0)), (27, Is (.int .i64 0)), (28, Is (.bool false)), (29, Is (.bool false)), (30, Is (.agg #[.int .i64 R, .int .i64 C])), (31, Is (.agg #[.int .i64 R, .int .i64 C])), (32, Is (.agg #[.int .i64 R, .int .i64 C])), (33, Is (.bool false)), (34, Is (.bool false)), (35, Is (.bool false)), (36, Is (.int .i64 0)), (37, Is (.bool true)), (38, Is (.bool true)), (39, Is (.agg #[.int .i64 R, .int .i64 C])), (40, Is (.string s)), (41, Is (.string s)), (42, Is (.bool false)), (43, Is (.bool false)), (44, Is (.bool false))]
    [.op [6] none, .op [8] none, .op [26, 27] none, .op [28] none, .op [5, 29] (some (29, false)), .op [30, 29] (some (29, false)), .op [7, 29] (some (29, false)), .op [31, 32, 29] (some (29, false)), .op [29, 33] none, .op [34] none, .op [8, 35] (some (35, false)), .op [36, 35] (some (35, false)), .op [37, 35] (some (35, false)), .op [5, 38] (some (38, true)), .op [39, 38] (some (38, true)), .op [1, 38] (some (38, true)), .op [40, 41, 38] (some (38, true)), .op [38, 42, 35] (some (35, false)), .op [35, 43] none] (by as_aux_lemma => kernel_rfl) ?_ ?_ ?_ ?_ ?_ ⟨stable_is _ _, stable_is _ _, stable_is _ _, stable_is _ _, stable_is _ _, stable_is _ _, stable_is _ _, stable_is _ _, stable_is _ _, stable_is _ _, stable_is _ _, stable_is _ _, stable_is _ _, stable_is _ _, stable_is _ _, stable_is _ _, stable_is _ _, stable_is _ _, stable_is _ _, stable_is _ _, stable_is _ _, stable_is _ _, stable_is _ _, stable_is _ _, stable_is _ _, trivial⟩ ?_ (HB.out.drew) ?_ ?_
  · as_aux_lemma => kernel_rfl
  · as_aux_lemma => kernel_rfl
  · as_aux_lemma => kernel_rfl
  · as_aux_lemma => kernel_rfl
  · as_aux_lemma => kernel_rfl
  · exact ⟨rfl, rfl, rfl, rfl, rfl, rfl, trivial⟩
  · refine ⟨?_, ?_, ?_, ?_, ?_, ?_, ?_, ?_, ?_, ?_, ?_, ?_, ?_, ?_, ?_, ?_, ?_, ?_, ?_, trivial⟩
    · as_aux_lemma =>
        intro vals a W hS hL
        have e6 : a.tmps.getD 6 undef = .int .i64 0 := hL.1
        clear hL
        go_simp
        exact ⟨⟨fun d hd => by injection hd with hd; subst hd; rfl, fun h => by cases h⟩, hS, trivial⟩
    · as_aux_lemma =>
        intro vals a W hS hL
        have e8 : a.tmps.getD 8 undef = .int .i64 0 := hL.1
        clear hL
        go_simp
        exact ⟨⟨fun d hd => by injection hd with hd; subst hd; rfl, fun h => by cases h⟩, hS, trivial⟩
    · as_aux_lemma =>
        intro vals a W hS hL
        have e26 : a.tmps.getD 26 undef = .int .i64 0 := hL.1
        have e27 : a.tmps.getD 27 undef = .int .i64 0 := hL.2.1
        clear hL
        go_simp
        exact ⟨⟨fun d hd => by injection hd with hd; subst hd; rfl, fun h => by cases h⟩, hS, trivial⟩
    · as_aux_lemma =>
        intro vals a W hS hL
        have e28 : a.tmps.getD 28 undef = .bool false := hL.1
        clear hL
        go_simp
        exact ⟨⟨fun d hd => by injection hd with hd; subst hd; rfl, fun h => by cases h⟩, hS, trivial⟩
    · as_aux_lemma =>
        intro vals a W hS hL
        have e5 : a.tmps.getD 5 undef = .pointer (some ⟨w2.heap.size, 0, none⟩) := hL.1
        have e29 : a.tmps.getD 29 undef = .bool false := hL.2.1
        clear hL
        refine ⟨false, e29, ?_⟩
        rw [if_pos rfl]
        have kb : Bk W (w2.heap.size) 25 #[.int .i64 R, .int .i64 C] := hS.bk 1 rfl rfl
        have f0 := kb.cell 0
        have f1 := kb.cell 1
        clear kb
        go_simp
        exact ⟨⟨fun d hd => by injection hd with hd; subst hd; rfl, fun h => by cases h⟩, hS, trivial⟩
    · as_aux_lemma =>
        intro vals a W hS hL
        have e30 : a.tmps.getD 30 undef = .agg #[.int .i64 R, .int .i64 C] := hL.1
        have e29 : a.tmps.getD 29 undef = .bool false := hL.2.1
        clear hL
        refine ⟨false, e29, ?_⟩
        rw [if_pos rfl]
        go_simp
        refine (HOR.out W).mono ?_
        rintro e W' ⟨rfl, hb⟩
        exact ⟨_, rfl, ⟨fun d hd => by injection hd with hd; subst hd; rfl, fun h => by cases h⟩, hS.call hb, trivial⟩
    · as_aux_lemma =>
        intro vals a W hS hL
        have e7 : a.tmps.getD 7 undef = .pointer (some ⟨w3.heap.size, 0, none⟩) := hL.1
        have e29 : a.tmps.getD 29 undef = .bool false := hL.2.1
        clear hL
        refine ⟨false, e29, ?_⟩
        rw [if_pos rfl]
        have kb : Bk W (w3.heap.size) 34 #[.int .i64 R, .int .i64 C] := hS.bk 0 rfl rfl
        have f0 := kb.cell 0
        have f1 := kb.cell 1
        clear kb
        go_simp
        exact ⟨⟨fun d hd => by injection hd with hd; subst hd; rfl, fun h => by cases h⟩, hS, trivial⟩
    · as_aux_lemma =>
        intro vals a W hS hL
        have e31 : a.tmps.getD 31 undef = .agg #[.int .i64 R, .int .i64 C] := hL.1
        have e32 : a.tmps.getD 32 undef = .agg #[.int .i64 R, .int .i64 C] := hL.2.1
        have e29 : a.tmps.getD 29 undef = .bool false := hL.2.2.1
        clear hL
        refine ⟨false, e29, ?_⟩
        rw [if_pos rfl]
        go_simp
        exact ⟨⟨fun d hd => by injection hd with hd; subst hd; rfl, fun h => by cases h⟩, hS, trivial⟩
    · as_aux_lemma =>
        intro vals a W hS hL
        have e29 : a.tmps.getD 29 undef = .bool false := hL.1
        have e33 : a.tmps.getD 33 undef = .bool false := hL.2.1
        clear hL
        go_simp
        exact ⟨⟨fun d hd => by injection hd with hd; subst hd; rfl, fun h => by cases h⟩, hS, trivial⟩
    · as_aux_lemma =>
        intro vals a W hS hL
        have e34 : a.tmps.getD 34 undef = .bool false := hL.1
        clear hL
        go_simp
        exact ⟨⟨fun d hd => by injection hd with hd; subst hd; rfl, fun h => by cases h⟩, hS, trivial⟩
    · as_aux_lemma =>
        intro vals a W hS hL
        have e8 : a.tmps.getD 8 undef = .int .i64 0 := hL.1
        have e35 : a.tmps.getD 35 undef = .bool false := hL.2.1
        clear hL
        refine ⟨false, e35, ?_⟩
        rw [if_pos rfl]
        go_simp
        exact ⟨⟨fun d hd => by injection hd with hd; subst hd; rfl, fun h => by cases h⟩, hS, trivial⟩
    · as_aux_lemma =>
        intro vals a W hS hL
        have e36 : a.tmps.getD 36 undef = .int .i64 0 := hL.1
        have e35 : a.tmps.getD 35 undef = .bool false := hL.2.1
        clear hL
        refine ⟨false, e35, ?_⟩
        rw [if_pos rfl]
        go_simp
        exact ⟨⟨fun d hd => by injection hd with hd; subst hd; rfl, fun h => by cases h⟩, hS, trivial⟩
    · as_aux_lemma =>
        intro vals a W hS hL
        have e37 : a.tmps.getD 37 undef = .bool true := hL.1
        have e35 : a.tmps.getD 35 undef = .bool false := hL.2.1
        clear hL
        refine ⟨false, e35, ?_⟩
        rw [if_pos rfl]
        go_simp
        exact ⟨⟨fun d hd => by injection hd with hd; subst hd; rfl, fun h => by cases h⟩, hS, trivial⟩
    · as_aux_lemma =>
        intro vals a W hS hL
        have e5 : a.tmps.getD 5 undef = .pointer (some ⟨w2.heap.size, 0, none⟩) := hL.1
        have e38 : a.tmps.getD 38 undef = .bool true := hL.2.1
        clear hL
        refine ⟨true, e38, ?_⟩
        rw [if_pos rfl]
        have kb : Bk W (w2.heap.size) 25 #[.int .i64 R, .int .i64 C] := hS.bk 1 rfl rfl
        have f0 := kb.cell 0
        have f1 := kb.cell 1
        clear kb
        go_simp
        exact ⟨⟨fun d hd => by injection hd with hd; subst hd; rfl, fun h => by cases h⟩, hS, trivial⟩
    · as_aux_lemma =>
        intro vals a W hS hL
        have e39 : a.tmps.getD 39 undef = .agg #[.int .i64 R, .int .i64 C] := hL.1
        have e38 : a.tmps.getD 38 undef = .bool true := hL.2.1
        clear hL
        refine ⟨true, e38, ?_⟩
        rw [if_pos rfl]
        go_simp
        refine (HT.out _ (SX.bel hS)).mono ?_
        rintro e W' ⟨rfl, hb⟩
        exact ⟨_, rfl, ⟨fun d hd => by injection hd with hd; subst hd; rfl, fun h => by cases h⟩, hS.call hb, trivial⟩
    · as_aux_lemma =>
        intro vals a W hS hL
        have e1 : a.tmps.getD 1 undef = .string s := hL.1
        have e38 : a.tmps.getD 38 undef = .bool true := hL.2.1
        clear hL
        refine ⟨true, e38, ?_⟩
        rw [if_pos rfl]
        go_simp
        exact ⟨⟨fun d hd => by injection hd with hd; subst hd; rfl, fun h => by cases h⟩, hS, trivial⟩
    · as_aux_lemma =>
        intro vals a W hS hL
        have e40 : a.tmps.getD 40 undef = .string s := hL.1
        have e41 : a.tmps.getD 41 undef = .string s := hL.2.1
        have e38 : a.tmps.getD 38 undef = .bool true := hL.2.2.1
        clear hL
        refine ⟨true, e38, ?_⟩
        rw [if_pos rfl]
        go_simp
        exact ⟨⟨fun d hd => by injection hd with hd; subst hd; rfl, fun h => by cases h⟩, hS, trivial⟩
    · as_aux_lemma =>
        intro vals a W hS hL
        have e38 : a.tmps.getD 38 undef = .bool true := hL.1
        have e42 : a.tmps.getD 42 undef = .bool false := hL.2.1
        have e35 : a.tmps.getD 35 undef = .bool false := hL.2.2.1
        clear hL
        refine ⟨false, e35, ?_⟩
        rw [if_pos rfl]
        go_simp
        exact ⟨⟨fun d hd => by injection hd with hd; subst hd; rfl, fun h => by cases h⟩, hS, trivial⟩
    · as_aux_lemma =>
        intro vals a W hS hL
        have e35 : a.tmps.getD 35 undef = .bool false := hL.1
        have e43 : a.tmps.getD 43 undef = .bool false := hL.2.1
        clear hL
        go_simp
        exact ⟨⟨fun d hd => by injection hd with hd; subst hd; rfl, fun h => by cases h⟩, hS, trivial⟩
  · intro a W' vals hd hsz hT hF hv hP hS
    obtain rfl : vals = [] := List.eq_nil_of_length_eq_zero hv
    have hS2 : SX w 1 ([] : List Stp) [] ([(w3.heap.size, 34, #[.int .i64 R, .int .i64 C]), (w2.heap.size, 25, #[.int .i64 R, .int .i64 C]), (w.heap.size, 25, #[.int .i64 e0, .int .i64 f0])] : List (Nat × TypeId × Array Value)) W' := hS
    clear hS
    have hB0 := hS2
    have hB : SB w 1 ([(w3.heap.size, 34, #[.int .i64 R, .int .i64 C]), (w2.heap.size, 25, #[.int .i64 R, .int .i64 C]), (w.heap.size, 25, #[.int .i64 e0, .int .i64 f0])] : List (Nat × TypeId × Array Value)) W' := hB0
    clear hB0
    have e1 : a.tmps.getD 1 undef = .string s := hT 1 (by simp)
    have e2 : a.tmps.getD 2 undef = .pointer (some ⟨w.heap.size, 0, none⟩) := hT 2 (by simp)
    have e44 : a.tmps.getD 44 undef = .bool false := hT 44 (by simp)
    clear hT hF hP
    rw [act_lit 69 a hd hsz]
    simp only [List.range, List.range.loop, List.map, e1, e2, e44]
    clear hd hsz e1 e2 e44
    have HB4 := Lib.hid hB
    clear HB hB HOR HT
    have HB := HB4
    clear HB4
    have kc := HB.out.box (i := 2) rfl
    have cc0 := kc.cell 0
    have cc1 := kc.cell 1
    clear kc
    go_wp2_with fail
    refine (HG.out _).mono ?_
    rintro e w5 ⟨rfl, hb⟩
    have hB := HB.out.call hb
    clear hb HB
    have HB := Lib.hid hB
    clear hB
    clear cc0 cc1 HG
    have hbel := HB.out.bel
    go_wp2
    go_ret
    exact ⟨rfl, hbel⟩

set_option maxRecDepth 20000 in
set_option maxHeartbeats 2000000 in
theorem words_2_true {w : World} (HV : Tens w) (s : ByteArray) (hlen : ¬ 100 < s.size)
    (HP : Hid (∀ W : World, Calls Tryd.prog 27 #[.string s] W fun e w' => e = .returned (.tuple #[.agg #[.int .i64 0, .int .i64 0], .int .i64 2]) ∧ Below W.heap.size W w'))
    (HQ : Hid (∀ W : World, Calls Tryd.prog 28 #[.string s] W fun e w' => e = .returned (.tuple #[.agg #[.int .i64 0, .int .i64 0], .int .i64 2]) ∧ Below W.heap.size W w'))
    (r0 c0 : Nat) (h0 : r0 < 65536) (h1 : c0 < 256) :
    Calls Tryd.prog 5 #[.agg #[.int .i64 (r0 : Nat), .int .i64 (c0 : Nat)], .string s] w fun e w' => e = .returned (.bool true) ∧ Below w.heap.size w w' := by
  have HK : Hid (∀ W : World, Below w.heap.size w W → Calls Tryd.prog 9 #[] W fun e w' => e = .returned (.bool true) ∧ Below W.heap.size W w') := Lib.hid (fun W hb => known8_any (HV.below hb))
  have HG : Hid (∀ W : World, Calls Tryd.prog 13 #[.agg #[.int .i64 (r0 : Nat), .int .i64 (c0 : Nat)]] W fun e w' => e = .returned (.bool true) ∧ Below W.heap.size W w') := Lib.hid (fun W => by
    have := good_any (w := W) r0 c0
    rw [gd_nat h0 h1] at this
    exact this)
  obtain ⟨sx, hx⟩ : ∃ b : ByteArray, (⟨(wordL r0 c0).toArray⟩ : ByteArray) = b := ⟨_, rfl⟩
  have hxl : sx.data.toList = wordL r0 c0 := by rw [← hx]
  have HTC : Hid (∀ W : World, Below w.heap.size w W → Calls Tryd.prog 29 #[.agg #[.int .i64 (r0 : Nat), .int .i64 (c0 : Nat)]] W fun e w' => e = .returned (.string sx) ∧ Below W.heap.size W w') := Lib.hid (fun W hb => by
    have := text_any (HV.below hb) r0 c0 h0 h1
    unfold sL at this
    rwa [hx] at this)
  have HCT : Hid (∀ W : World, Calls Tryd.prog 30 #[.agg #[.int .i64 (r0 : Nat), .int .i64 (c0 : Nat)]] W fun e w' => e = .returned (.string sx) ∧ Below W.heap.size W w') := Lib.hid (fun W => by
    have := bText_any (w := W) r0 c0 h0 h1
    unfold sL at this
    rwa [hx] at this)
  have hxs : sx.size ≤ 140737488355328 := by
    have h2 := colL_len c0
    have h3 := dig_len (r0 + 1)
    have h4 := congrArg List.length hxl
    unfold wordL at h4
    rw [List.length_append] at h4
    simp at h4
    omega
  have HPT : Hid (∀ W : World, Calls Tryd.prog 27 #[.string sx] W fun e w' => e = .returned (.tuple #[.agg #[.int .i64 (r0 : Nat), .int .i64 (c0 : Nat)], .int .i64 0]) ∧ Below W.heap.size W w') := Lib.hid (fun W => by
    have := parse_any (w := W) sx hxs
    obtain ⟨v1, v2, v3⟩ := pv_ok (r := r0 + 1) (c := c0 + 1) (by omega) (by omega)
    rw [hxl, mach_word r0 c0 h0 h1, v1, v2, v3] at this
    unfold parV at this
    rw [show ((r0 + 1 : Nat) : Int) - 1 = (r0 : Int) by omega, show ((c0 + 1 : Nat) : Int) - 1 = (c0 : Int) by omega] at this
    exact this)
  have HOC := Lib.hid (fun W : World => ofCell_any (w := W) r0 c0)
  clear hx hxl hxs
  have HOR := Lib.hid (fun W : World => ofCell_any (w := W) 0 0)
  clear HV
  have hlen' : ¬ (100 : Int) < (s.size : Int) := by omega
  have HB : Hid (SB w 1 ([(w.heap.size, 25, #[.int .i64 (r0 : Nat), .int .i64 (c0 : Nat)])] : List (Nat × TypeId × Array Value)) (w.alloc (.cells #[.int .i64 (r0 : Nat), .int .i64 (c0 : Nat)] 25))) := Lib.hid (sb1 w 25 #[.int .i64 (r0 : Nat), .int .i64 (c0 : Nat)])
  go_enter Tryd.func5, Tryd.ntmps5
  go_wp2_with fail
  refine (HK.out _ HB.out.bel).mono ?_
  rintro e w1 ⟨rfl, hb⟩
  have hB := HB.out.call hb
  clear hb HB
  have HB := Lib.hid hB
  clear hB
  go_wp2_with fail
  refine (HP.out _).mono ?_
  rintro e w2 ⟨rfl, hb⟩
  have hB := HB.out.call hb
  have hB := hB.alloc 25 #[.int .i64 0, .int .i64 0]
  clear hb HB
  have HB := Lib.hid hB
  clear hB
  go_wp2_with fail
  refine (HQ.out _).mono ?_
  rintro e w3 ⟨rfl, hb⟩
  have hB := HB.out.call hb
  have hB := hB.alloc 34 #[.int .i64 0, .int .i64 0]
  clear hb HB
  have HB := Lib.hid hB
  clear hB
  clear HK HP HQ
  go_wp2_with fail
  refine wp_region_phases (S := (fun vals W => SX w 1 ([] : List Stp) vals ([(w3.heap.size, 34, #[.int .i64 0, .int .i64 0]), (w2.heap.size, 25, #[.int .i64 0, .int .i64 0]), (w.heap.size, 25, #[.int .i64 (r0 : Nat), .int .i64 (c0 : Nat)])] : List (Nat × TypeId × Array Value)) W)) (E := (fun _ _ => True)) [] [(1, Is (.string s)), (2, Is (.pointer (some ⟨w.heap.size, 0, none⟩))), (5, Is (.pointer (some ⟨w2.heap.size, 0, none⟩))), (6, Is (.int .i64 2)), (7, Is (.pointer (some ⟨w3.heap.size, 0, none⟩))), (8, Is (.int .i64 2))] [(26, Is (.int .i64 2)), (27, Is (.int .i64 2)), (28, Is (.bool false)), (29, Is (.bool false)), (30, Is (.agg #[.int .i64 0, .int .i64 0])), (31, Is (.agg #[.int .i64 0, .int .i64 0])), (32, Is (.agg #[.int .i64 0, .int .i64 0])), (33, Is (.bool false)), (34, Is (.bool false)), (35, Is (.bool false)), (36, Is (.int .i64 2)), (37, Is (.bool false)), (38, Is (.bool false)), (39, Is (undef)), (40, Is (undef)), (41, Is (undef)), (42, Is (undef)), (43, Is (.bool false)), (44, Is (.bool false))]
    [.op [6] none, .op [8] none, .op [26, 27] none, .op [28] none, .op [5, 29] (some (29, false)), .op [30, 29] (some (29, false)), .op [7, 29] (some (29, false)), .op [31, 32, 29] (some (29, false)), .op [29, 33] none, .op [34] none, .op [8, 35] (some (35, false)), .op [36, 35] (some (35, false)), .op [37, 35] (some (35, false)), .op [5, 38] (some (38, true)), .op [39, 38] (some (38, true)), .op [1, 38] (some (38, true)), .op [40, 41, 38] (some (38, true)), .op [38, 42, 35] (some (35, false)), .op [35, 43] none] (by as_aux_lemma => kernel_rfl) ?_ ?_ ?_ ?_ ?_ ⟨stable_is _ _, stable_is _ _, stable_is _ _, stable_is _ _, stable_is _ _, stable_is _ _, stable_is _ _, stable_is _ _, stable_is _ _, stable_is _ _, stable_is _ _, stable_is _ _, stable_is _ _, stable_is _ _, stable_is _ _, stable_is _ _, stable_is _ _, stable_is _ _, stable_is _ _, stable_is _ _, stable_is _ _, stable_is _ _, stable_is _ _, stable_is _ _, stable_is _ _, trivial⟩ ?_ (HB.out.drew) ?_ ?_
  · as_aux_lemma => kernel_rfl
  · as_aux_lemma => kernel_rfl
  · as_aux_lemma => kernel_rfl
  · as_aux_lemma => kernel_rfl
  · as_aux_lemma => kernel_rfl
  · exact ⟨rfl, rfl, rfl, rfl, rfl, rfl, trivial⟩
  · refine ⟨?_, ?_, ?_, ?_, ?_, ?_, ?_, ?_, ?_, ?_, ?_, ?_, ?_, ?_, ?_, ?_, ?_, ?_, ?_, trivial⟩
    · as_aux_lemma =>
        intro vals a W hS hL
        have e6 : a.tmps.getD 6 undef = .int .i64 2 := hL.1
        clear hL
        go_simp
        exact ⟨⟨fun d hd => by injection hd with hd; subst hd; rfl, fun h => by cases h⟩, hS, trivial⟩
    · as_aux_lemma =>
        intro vals a W hS hL
        have e8 : a.tmps.getD 8 undef = .int .i64 2 := hL.1
        clear hL
        go_simp
        exact ⟨⟨fun d hd => by injection hd with hd; subst hd; rfl, fun h => by cases h⟩, hS, trivial⟩
    · as_aux_lemma =>
        intro vals a W hS hL
        have e26 : a.tmps.getD 26 undef = .int .i64 2 := hL.1
        have e27 : a.tmps.getD 27 undef = .int .i64 2 := hL.2.1
        clear hL
        go_simp
        exact ⟨⟨fun d hd => by injection hd with hd; subst hd; rfl, fun h => by cases h⟩, hS, trivial⟩
    · as_aux_lemma =>
        intro vals a W hS hL
        have e28 : a.tmps.getD 28 undef = .bool false := hL.1
        clear hL
        go_simp
        exact ⟨⟨fun d hd => by injection hd with hd; subst hd; rfl, fun h => by cases h⟩, hS, trivial⟩
    · as_aux_lemma =>
        intro vals a W hS hL
        have e5 : a.tmps.getD 5 undef = .pointer (some ⟨w2.heap.size, 0, none⟩) := hL.1
        have e29 : a.tmps.getD 29 undef = .bool false := hL.2.1
        clear hL
        refine ⟨false, e29, ?_⟩
        rw [if_pos rfl]
        have kb : Bk W (w2.heap.size) 25 #[.int .i64 0, .int .i64 0] := hS.bk 1 rfl rfl
        have f0 := kb.cell 0
        have f1 := kb.cell 1
        clear kb
        go_simp
        exact ⟨⟨fun d hd => by injection hd with hd; subst hd; rfl, fun h => by cases h⟩, hS, trivial⟩
    · as_aux_lemma =>
        intro vals a W hS hL
        have e30 : a.tmps.getD 30 undef = .agg #[.int .i64 0, .int .i64 0] := hL.1
        have e29 : a.tmps.getD 29 undef = .bool false := hL.2.1
        clear hL
        refine ⟨false, e29, ?_⟩
        rw [if_pos rfl]
        go_simp
        refine (HOR.out W).mono ?_
        rintro e W' ⟨rfl, hb⟩
        exact ⟨_, rfl, ⟨fun d hd => by injection hd with hd; subst hd; rfl, fun h => by cases h⟩, hS.call hb, trivial⟩
    · as_aux_lemma =>
        intro vals a W hS hL
        have e7 : a.tmps.getD 7 undef = .pointer (some ⟨w3.heap.size, 0, none⟩) := hL.1
        have e29 : a.tmps.getD 29 undef = .bool false := hL.2.1
        clear hL
        refine ⟨false, e29, ?_⟩
        rw [if_pos rfl]
        have kb : Bk W (w3.heap.size) 34 #[.int .i64 0, .int .i64 0] := hS.bk 0 rfl rfl
        have f0 := kb.cell 0
        have f1 := kb.cell 1
        clear kb
        go_simp
        exact ⟨⟨fun d hd => by injection hd with hd; subst hd; rfl, fun h => by cases h⟩, hS, trivial⟩
    · as_aux_lemma =>
        intro vals a W hS hL
        have e31 : a.tmps.getD 31 undef = .agg #[.int .i64 0, .int .i64 0] := hL.1
        have e32 : a.tmps.getD 32 undef = .agg #[.int .i64 0, .int .i64 0] := hL.2.1
        have e29 : a.tmps.getD 29 undef = .bool false := hL.2.2.1
        clear hL
        refine ⟨false, e29, ?_⟩
        rw [if_pos rfl]
        go_simp
        exact ⟨⟨fun d hd => by injection hd with hd; subst hd; rfl, fun h => by cases h⟩, hS, trivial⟩
    · as_aux_lemma =>
        intro vals a W hS hL
        have e29 : a.tmps.getD 29 undef = .bool false := hL.1
        have e33 : a.tmps.getD 33 undef = .bool false := hL.2.1
        clear hL
        go_simp
        exact ⟨⟨fun d hd => by injection hd with hd; subst hd; rfl, fun h => by cases h⟩, hS, trivial⟩
    · as_aux_lemma =>
        intro vals a W hS hL
        have e34 : a.tmps.getD 34 undef = .bool false := hL.1
        clear hL
        go_simp
        exact ⟨⟨fun d hd => by injection hd with hd; subst hd; rfl, fun h => by cases h⟩, hS, trivial⟩
    · as_aux_lemma =>
        intro vals a W hS hL
        have e8 : a.tmps.getD 8 undef = .int .i64 2 := hL.1
        have e35 : a.tmps.getD 35 undef = .bool false := hL.2.1
        clear hL
        refine ⟨false, e35, ?_⟩
        rw [if_pos rfl]
        go_simp
        exact ⟨⟨fun d hd => by injection hd with hd; subst hd; rfl, fun h => by cases h⟩, hS, trivial⟩
    · as_aux_lemma =>
        intro vals a W hS hL
        have e36 : a.tmps.getD 36 undef = .int .i64 2 := hL.1
        have e35 : a.tmps.getD 35 undef = .bool false := hL.2.1
        clear hL
        refine ⟨false, e35, ?_⟩
        rw [if_pos rfl]
        go_simp
        exact ⟨⟨fun d hd => by injection hd with hd; subst hd; rfl, fun h => by cases h⟩, hS, trivial⟩
    · as_aux_lemma =>
        intro vals a W hS hL
        have e37 : a.tmps.getD 37 undef = .bool false := hL.1
        have e35 : a.tmps.getD 35 undef = .bool false := hL.2.1
        clear hL
        refine ⟨false, e35, ?_⟩
        rw [if_pos rfl]
        go_simp
        exact ⟨⟨fun d hd => by injection hd with hd; subst hd; rfl, fun h => by cases h⟩, hS, trivial⟩
    · as_aux_lemma =>
        intro vals a W hS hL
        have e5 : a.tmps.getD 5 undef = .pointer (some ⟨w2.heap.size, 0, none⟩) := hL.1
        have e38 : a.tmps.getD 38 undef = .bool false := hL.2.1
        clear hL
        refine ⟨false, e38, ?_⟩
        rw [if_neg (by decide)]
        exact ⟨⟨fun d hd => by injection hd with hd; subst hd; rfl, fun h => by cases h⟩, trivial⟩
    · as_aux_lemma =>
        intro vals a W hS hL
        have e39 : a.tmps.getD 39 undef = undef := hL.1
        have e38 : a.tmps.getD 38 undef = .bool false := hL.2.1
        clear hL
        refine ⟨false, e38, ?_⟩
        rw [if_neg (by decide)]
        exact ⟨⟨fun d hd => by injection hd with hd; subst hd; rfl, fun h => by cases h⟩, trivial⟩
    · as_aux_lemma =>
        intro vals a W hS hL
        have e1 : a.tmps.getD 1 undef = .string s := hL.1
        have e38 : a.tmps.getD 38 undef = .bool false := hL.2.1
        clear hL
        refine ⟨false, e38, ?_⟩
        rw [if_neg (by decide)]
        exact ⟨⟨fun d hd => by injection hd with hd; subst hd; rfl, fun h => by cases h⟩, trivial⟩
    · as_aux_lemma =>
        intro vals a W hS hL
        have e40 : a.tmps.getD 40 undef = undef := hL.1
        have e41 : a.tmps.getD 41 undef = undef := hL.2.1
        have e38 : a.tmps.getD 38 undef = .bool false := hL.2.2.1
        clear hL
        refine ⟨false, e38, ?_⟩
        rw [if_neg (by decide)]
        exact ⟨⟨fun d hd => by injection hd with hd; subst hd; rfl, fun h => by cases h⟩, trivial⟩
    · as_aux_lemma =>
        intro vals a W hS hL
        have e38 : a.tmps.getD 38 undef = .bool false := hL.1
        have e42 : a.tmps.getD 42 undef = undef := hL.2.1
        have e35 : a.tmps.getD 35 undef = .bool false := hL.2.2.1
        clear hL
        refine ⟨false, e35, ?_⟩
        rw [if_pos rfl]
        go_simp
        exact ⟨⟨fun d hd => by injection hd with hd; subst hd; rfl, fun h => by cases h⟩, hS, trivial⟩
    · as_aux_lemma =>
        intro vals a W hS hL
        have e35 : a.tmps.getD 35 undef = .bool false := hL.1
        have e43 : a.tmps.getD 43 undef = .bool false := hL.2.1
        clear hL
        go_simp
        exact ⟨⟨fun d hd => by injection hd with hd; subst hd; rfl, fun h => by cases h⟩, hS, trivial⟩
  · intro a W' vals hd hsz hT hF hv hP hS
    obtain rfl : vals = [] := List.eq_nil_of_length_eq_zero hv
    have hS2 : SX w 1 ([] : List Stp) [] ([(w3.heap.size, 34, #[.int .i64 0, .int .i64 0]), (w2.heap.size, 25, #[.int .i64 0, .int .i64 0]), (w.heap.size, 25, #[.int .i64 (r0 : Nat), .int .i64 (c0 : Nat)])] : List (Nat × TypeId × Array Value)) W' := hS
    clear hS
    have hB0 := hS2
    have hB : SB w 1 ([(w3.heap.size, 34, #[.int .i64 0, .int .i64 0]), (w2.heap.size, 25, #[.int .i64 0, .int .i64 0]), (w.heap.size, 25, #[.int .i64 (r0 : Nat), .int .i64 (c0 : Nat)])] : List (Nat × TypeId × Array Value)) W' := hB0
    clear hB0
    have e1 : a.tmps.getD 1 undef = .string s := hT 1 (by simp)
    have e2 : a.tmps.getD 2 undef = .pointer (some ⟨w.heap.size, 0, none⟩) := hT 2 (by simp)
    have e44 : a.tmps.getD 44 undef = .bool false := hT 44 (by simp)
    clear hT hF hP
    rw [act_lit 69 a hd hsz]
    simp only [List.range, List.range.loop, List.map, e1, e2, e44]
    clear hd hsz e1 e2 e44
    have HB4 := Lib.hid hB
    clear HB hB HOR
    have HB := HB4
    clear HB4
    have kc := HB.out.box (i := 2) rfl
    have cc0 := kc.cell 0
    have cc1 := kc.cell 1
    clear kc
    go_wp2_with fail
    refine (HG.out _).mono ?_
    rintro e w5 ⟨rfl, hb⟩
    have hB := HB.out.call hb
    clear hb HB
    have HB := Lib.hid hB
    clear hB
    clear cc0 cc1 HG
    have kc := HB.out.box (i := 2) rfl
    have cc0 := kc.cell 0
    have cc1 := kc.cell 1
    clear kc
    go_wp2_with fail
    refine (HTC.out _ HB.out.bel).mono ?_
    rintro e w6 ⟨rfl, hb⟩
    have hB := HB.out.call hb
    clear hb HB
    have HB := Lib.hid hB
    clear hB
    go_wp2_with fail
    refine (HPT.out _).mono ?_
    rintro e w7 ⟨rfl, hb⟩
    have hB := HB.out.call hb
    have hB := hB.alloc 25 #[.int .i64 (r0 : Nat), .int .i64 (c0 : Nat)]
    clear hb HB
    have HB := Lib.hid hB
    clear hB
    clear cc0 cc1 HPT
    go_wp2_with fail
    refine wp_region_phases (S := (fun vals W => SX w 1 ([] : List Stp) vals ([(w7.heap.size, 25, #[.int .i64 (r0 : Nat), .int .i64 (c0 : Nat)]), (w3.heap.size, 34, #[.int .i64 0, .int .i64 0]), (w2.heap.size, 25, #[.int .i64 0, .int .i64 0]), (w.heap.size, 25, #[.int .i64 (r0 : Nat), .int .i64 (c0 : Nat)])] : List (Nat × TypeId × Array Value)) W)) (E := (fun _ _ => True)) [] [(2, Is (.pointer (some ⟨w.heap.size, 0, none⟩))), (9, Is (.pointer (some ⟨w7.heap.size, 0, none⟩))), (10, Is (.int .i64 0))] [(54, Is (.agg #[.int .i64 (r0 : Nat), .int .i64 (c0 : Nat)])), (55, Is (.string sx)), (56, Is (.agg #[.int .i64 (r0 : Nat), .int .i64 (c0 : Nat)])), (57, Is (.agg #[.int .i64 (r0 : Nat), .int .i64 (c0 : Nat)])), (58, Is (.string sx)), (59, Is (.bool true)), (60, Is (.bool true)), (61, Is (.int .i64 0)), (62, Is (.bool true)), (63, Is (.bool true)), (64, Is (.bool true)), (65, Is (.agg #[.int .i64 (r0 : Nat), .int .i64 (c0 : Nat)])), (66, Is (.agg #[.int .i64 (r0 : Nat), .int .i64 (c0 : Nat)])), (67, Is (.bool true)), (68, Is (.bool true)), (4, Is (.bool true))]
      [.op [2] none, .op [54] none, .op [2] none, .op [56] none, .op [57] none, .op [55, 58] none, .op [59] none, .op [10, 60] (some (60, true)), .op [61, 60] (some (60, true)), .op [60, 62] none, .op [63] none, .op [9, 64] (some (64, true)), .op [2, 64] (some (64, true)), .op [65, 66, 64] (some (64, true)), .op [64, 67] none, .op [68] none] (by as_aux_lemma => kernel_rfl) ?_ ?_ ?_ ?_ ?_ ⟨stable_is _ _, stable_is _ _, stable_is _ _, stable_is _ _, stable_is _ _, stable_is _ _, stable_is _ _, stable_is _ _, stable_is _ _, stable_is _ _, stable_is _ _, stable_is _ _, stable_is _ _, stable_is _ _, stable_is _ _, stable_is _ _, stable_is _ _, stable_is _ _, stable_is _ _, trivial⟩ ?_ (HB.out.drew) ?_ ?_
    · as_aux_lemma => kernel_rfl
    · as_aux_lemma => kernel_rfl
    · as_aux_lemma => kernel_rfl
    · as_aux_lemma => kernel_rfl
    · as_aux_lemma => kernel_rfl
    · exact ⟨rfl, rfl, rfl, trivial⟩
    · refine ⟨?_, ?_, ?_, ?_, ?_, ?_, ?_, ?_, ?_, ?_, ?_, ?_, ?_, ?_, ?_, ?_, trivial⟩
      · as_aux_lemma =>
          intro vals a W hS hL
          have e2 : a.tmps.getD 2 undef = .pointer (some ⟨w.heap.size, 0, none⟩) := hL.1
          clear hL
          have kb : Bk W (w.heap.size) 25 #[.int .i64 (r0 : Nat), .int .i64 (c0 : Nat)] := hS.bk 3 rfl rfl
          have f0 := kb.cell 0
          have f1 := kb.cell 1
          clear kb
          go_simp
          exact ⟨⟨fun d hd => by injection hd with hd; subst hd; rfl, fun h => by cases h⟩, hS, trivial⟩
      · as_aux_lemma =>
          intro vals a W hS hL
          have e54 : a.tmps.getD 54 undef = .agg #[.int .i64 (r0 : Nat), .int .i64 (c0 : Nat)] := hL.1
          clear hL
          go_simp
          refine (HTC.out _ (SX.bel hS)).mono ?_
          rintro e W' ⟨rfl, hb⟩
          exact ⟨_, rfl, ⟨fun d hd => by injection hd with hd; subst hd; rfl, fun h => by cases h⟩, hS.call hb, trivial⟩
      · as_aux_lemma =>
          intro vals a W hS hL
          have e2 : a.tmps.getD 2 undef = .pointer (some ⟨w.heap.size, 0, none⟩) := hL.1
          clear hL
          have kb : Bk W (w.heap.size) 25 #[.int .i64 (r0 : Nat), .int .i64 (c0 : Nat)] := hS.bk 3 rfl rfl
          have f0 := kb.cell 0
          have f1 := kb.cell 1
          clear kb
          go_simp
          exact ⟨⟨fun d hd => by injection hd with hd; subst hd; rfl, fun h => by cases h⟩, hS, trivial⟩
      · as_aux_lemma =>
          intro vals a W hS hL
          have e56 : a.tmps.getD 56 undef = .agg #[.int .i64 (r0 : Nat), .int .i64 (c0 : Nat)] := hL.1
          clear hL
          go_simp
          refine (HOC.out W).mono ?_
          rintro e W' ⟨rfl, hb⟩
          exact ⟨_, rfl, ⟨fun d hd => by injection hd with hd; subst hd; rfl, fun h => by cases h⟩, hS.call hb, trivial⟩
      · as_aux_lemma =>
          intro vals a W hS hL
          have e57 : a.tmps.getD 57 undef = .agg #[.int .i64 (r0 : Nat), .int .i64 (c0 : Nat)] := hL.1
          clear hL
          go_simp
          refine (HCT.out W).mono ?_
          rintro e W' ⟨rfl, hb⟩
          exact ⟨_, rfl, ⟨fun d hd => by injection hd with hd; subst hd; rfl, fun h => by cases h⟩, hS.call hb, trivial⟩
      · as_aux_lemma =>
          intro vals a W hS hL
          have e55 : a.tmps.getD 55 undef = .string sx := hL.1
          have e58 : a.tmps.getD 58 undef = .string sx := hL.2.1
          clear hL
          go_simp
          exact ⟨⟨fun d hd => by injection hd with hd; subst hd; rfl, fun h => by cases h⟩, hS, trivial⟩
      · as_aux_lemma =>
          intro vals a W hS hL
          have e59 : a.tmps.getD 59 undef = .bool true := hL.1
          clear hL
          go_simp
          exact ⟨⟨fun d hd => by injection hd with hd; subst hd; rfl, fun h => by cases h⟩, hS, trivial⟩
      · as_aux_lemma =>
          intro vals a W hS hL
          have e10 : a.tmps.getD 10 undef = .int .i64 0 := hL.1
          have e60 : a.tmps.getD 60 undef = .bool true := hL.2.1
          clear hL
          refine ⟨true, e60, ?_⟩
          rw [if_pos rfl]
          go_simp
          exact ⟨⟨fun d hd => by injection hd with hd; subst hd; rfl, fun h => by cases h⟩, hS, trivial⟩
      · as_aux_lemma =>
          intro vals a W hS hL
          have e61 : a.tmps.getD 61 undef = .int .i64 0 := hL.1
          have e60 : a.tmps.getD 60 undef = .bool true := hL.2.1
          clear hL
          refine ⟨true, e60, ?_⟩
          rw [if_pos rfl]
          go_simp
          exact ⟨⟨fun d hd => by injection hd with hd; subst hd; rfl, fun h => by cases h⟩, hS, trivial⟩
      · as_aux_lemma =>
          intro vals a W hS hL
          have e60 : a.tmps.getD 60 undef = .bool true := hL.1
          have e62 : a.tmps.getD 62 undef = .bool true := hL.2.1
          clear hL
          go_simp
          exact ⟨⟨fun d hd => by injection hd with hd; subst hd; rfl, fun h => by cases h⟩, hS, trivial⟩
      · as_aux_lemma =>
          intro vals a W hS hL
          have e63 : a.tmps.getD 63 undef = .bool true := hL.1
          clear hL
          go_simp
          exact ⟨⟨fun d hd => by injection hd with hd; subst hd; rfl, fun h => by cases h⟩, hS, trivial⟩
      · as_aux_lemma =>
          intro vals a W hS hL
          have e9 : a.tmps.getD 9 undef = .pointer (some ⟨w7.heap.size, 0, none⟩) := hL.1
          have e64 : a.tmps.getD 64 undef = .bool true := hL.2.1
          clear hL
          refine ⟨true, e64, ?_⟩
          rw [if_pos rfl]
          have kb : Bk W (w7.heap.size) 25 #[.int .i64 (r0 : Nat), .int .i64 (c0 : Nat)] := hS.bk 0 rfl rfl
          have f0 := kb.cell 0
          have f1 := kb.cell 1
          clear kb
          go_simp
          exact ⟨⟨fun d hd => by injection hd with hd; subst hd; rfl, fun h => by cases h⟩, hS, trivial⟩
      · as_aux_lemma =>
          intro vals a W hS hL
          have e2 : a.tmps.getD 2 undef = .pointer (some ⟨w.heap.size, 0, none⟩) := hL.1
          have e64 : a.tmps.getD 64 undef = .bool true := hL.2.1
          clear hL
          refine ⟨true, e64, ?_⟩
          rw [if_pos rfl]
          have kb : Bk W (w.heap.size) 25 #[.int .i64 (r0 : Nat), .int .i64 (c0 : Nat)] := hS.bk 3 rfl rfl
          have f0 := kb.cell 0
          have f1 := kb.cell 1
          clear kb
          go_simp
          exact ⟨⟨fun d hd => by injection hd with hd; subst hd; rfl, fun h => by cases h⟩, hS, trivial⟩
      · as_aux_lemma =>
          intro vals a W hS hL
          have e65 : a.tmps.getD 65 undef = .agg #[.int .i64 (r0 : Nat), .int .i64 (c0 : Nat)] := hL.1
          have e66 : a.tmps.getD 66 undef = .agg #[.int .i64 (r0 : Nat), .int .i64 (c0 : Nat)] := hL.2.1
          have e64 : a.tmps.getD 64 undef = .bool true := hL.2.2.1
          clear hL
          refine ⟨true, e64, ?_⟩
          rw [if_pos rfl]
          go_simp
          exact ⟨⟨fun d hd => by injection hd with hd; subst hd; rfl, fun h => by cases h⟩, hS, trivial⟩
      · as_aux_lemma =>
          intro vals a W hS hL
          have e64 : a.tmps.getD 64 undef = .bool true := hL.1
          have e67 : a.tmps.getD 67 undef = .bool true := hL.2.1
          clear hL
          go_simp
          exact ⟨⟨fun d hd => by injection hd with hd; subst hd; rfl, fun h => by cases h⟩, hS, trivial⟩
      · as_aux_lemma =>
          intro vals a W hS hL
          have e68 : a.tmps.getD 68 undef = .bool true := hL.1
          clear hL
          go_simp
          exact ⟨⟨fun d hd => by injection hd with hd; subst hd; rfl, fun h => by cases h⟩, hS, trivial⟩
    · intro a W' vals hd hsz hT hF hv hP hS
      obtain rfl : vals = [] := List.eq_nil_of_length_eq_zero hv
      have hS2 : SX w 1 ([] : List Stp) [] ([(w7.heap.size, 25, #[.int .i64 (r0 : Nat), .int .i64 (c0 : Nat)]), (w3.heap.size, 34, #[.int .i64 0, .int .i64 0]), (w2.heap.size, 25, #[.int .i64 0, .int .i64 0]), (w.heap.size, 25, #[.int .i64 (r0 : Nat), .int .i64 (c0 : Nat)])] : List (Nat × TypeId × Array Value)) W' := hS
      clear hS
      have hB0 := hS2
      have hB : SB w 1 ([(w7.heap.size, 25, #[.int .i64 (r0 : Nat), .int .i64 (c0 : Nat)]), (w3.heap.size, 34, #[.int .i64 0, .int .i64 0]), (w2.heap.size, 25, #[.int .i64 0, .int .i64 0]), (w.heap.size, 25, #[.int .i64 (r0 : Nat), .int .i64 (c0 : Nat)])] : List (Nat × TypeId × Array Value)) W' := hB0
      clear hB0
      have e4 : a.tmps.getD 4 undef = .bool true := hT 4 (by simp)
      clear hT hF hP
      go_wp2
      refine bodyPost_ret (v := .bool true) ?_ hd ⟨rfl, hB.bel⟩
      rw [Array.getD_eq_getD_getElem?] at e4
      simp [results, Tryd.results5, go_sem, e4]

set_option maxRecDepth 20000 in
set_option maxHeartbeats 2000000 in
theorem words_2_false {w : World} (HV : Tens w) (s : ByteArray) (hlen : ¬ 100 < s.size)
    (HP : Hid (∀ W : World, Calls Tryd.prog 27 #[.string s] W fun e w' => e = .returned (.tuple #[.agg #[.int .i64 0, .int .i64 0], .int .i64 2]) ∧ Below W.heap.size W w'))
    (HQ : Hid (∀ W : World, Calls Tryd.prog 28 #[.string s] W fun e w' => e = .returned (.tuple #[.agg #[.int .i64 0, .int .i64 0], .int .i64 2]) ∧ Below W.heap.size W w'))
    (e0 f0 : Int) (hg : gdB e0 f0 = false) :
    Calls Tryd.prog 5 #[.agg #[.int .i64 e0, .int .i64 f0], .string s] w fun e w' => e = .returned (.bool true) ∧ Below w.heap.size w w' := by
  have HK : Hid (∀ W : World, Below w.heap.size w W → Calls Tryd.prog 9 #[] W fun e w' => e = .returned (.bool true) ∧ Below W.heap.size W w') := Lib.hid (fun W hb => known8_any (HV.below hb))
  have HG : Hid (∀ W : World, Calls Tryd.prog 13 #[.agg #[.int .i64 e0, .int .i64 f0]] W fun e w' => e = .returned (.bool false) ∧ Below W.heap.size W w') := Lib.hid (fun W => by
    have := good_any (w := W) e0 f0
    rw [hg] at this
    exact this)
  clear hg
  have HOR := Lib.hid (fun W : World => ofCell_any (w := W) 0 0)
  clear HV
  have hlen' : ¬ (100 : Int) < (s.size : Int) := by omega
  have HB : Hid (SB w 1 ([(w.heap.size, 25, #[.int .i64 e0, .int .i64 f0])] : List (Nat × TypeId × Array Value)) (w.alloc (.cells #[.int .i64 e0, .int .i64 f0] 25))) := Lib.hid (sb1 w 25 #[.int .i64 e0, .int .i64 f0])
  go_enter Tryd.func5, Tryd.ntmps5
  go_wp2_with fail
  refine (HK.out _ HB.out.bel).mono ?_
  rintro e w1 ⟨rfl, hb⟩
  have hB := HB.out.call hb
  clear hb HB
  have HB := Lib.hid hB
  clear hB
  go_wp2_with fail
  refine (HP.out _).mono ?_
  rintro e w2 ⟨rfl, hb⟩
  have hB := HB.out.call hb
  have hB := hB.alloc 25 #[.int .i64 0, .int .i64 0]
  clear hb HB
  have HB := Lib.hid hB
  clear hB
  go_wp2_with fail
  refine (HQ.out _).mono ?_
  rintro e w3 ⟨rfl, hb⟩
  have hB := HB.out.call hb
  have hB := hB.alloc 34 #[.int .i64 0, .int .i64 0]
  clear hb HB
  have HB := Lib.hid hB
  clear hB
  clear HK HP HQ
  go_wp2_with fail
  refine wp_region_phases (S := (fun vals W => SX w 1 ([] : List Stp) vals ([(w3.heap.size, 34, #[.int .i64 0, .int .i64 0]), (w2.heap.size, 25, #[.int .i64 0, .int .i64 0]), (w.heap.size, 25, #[.int .i64 e0, .int .i64 f0])] : List (Nat × TypeId × Array Value)) W)) (E := (fun _ _ => True)) [] [(1, Is (.string s)), (2, Is (.pointer (some ⟨w.heap.size, 0, none⟩))), (5, Is (.pointer (some ⟨w2.heap.size, 0, none⟩))), (6, Is (.int .i64 2)), (7, Is (.pointer (some ⟨w3.heap.size, 0, none⟩))), (8, Is (.int .i64 2))] [(26, Is (.int .i64 2)), (27, Is (.int .i64 2)), (28, Is (.bool false)), (29, Is (.bool false)), (30, Is (.agg #[.int .i64 0, .int .i64 0])), (31, Is (.agg #[.int .i64 0, .int .i64 0])), (32, Is (.agg #[.int .i64 0, .int .i64 0])), (33, Is (.bool false)), (34, Is (.bool false)), (35, Is (.bool false)), (36, Is (.int .i64 2)), (37, Is (.bool false)), (38, Is (.bool false)), (39, Is (undef)), (40, Is (undef)), (41, Is (undef)), (42, Is (undef)), (43, Is (.bool false)), (44, Is (.bool false))]
    [.op [6] none, .op [8] none, .op [26, 27] none, .op [28] none, .op [5, 29] (some (29, false)), .op [30, 29] (some (29, false)), .op [7, 29] (some (29, false)), .op [31, 32, 29] (some (29, false)), .op [29, 33] none, .op [34] none, .op [8, 35] (some (35, false)), .op [36, 35] (some (35, false)), .op [37, 35] (some (35, false)), .op [5, 38] (some (38, true)), .op [39, 38] (some (38, true)), .op [1, 38] (some (38, true)), .op [40, 41, 38] (some (38, true)), .op [38, 42, 35] (some (35, false)), .op [35, 43] none] (by as_aux_lemma => kernel_rfl) ?_ ?_ ?_ ?_ ?_ ⟨stable_is _ _, stable_is _ _, stable_is _ _, stable_is _ _, stable_is _ _, stable_is _ _, stable_is _ _, stable_is _ _, stable_is _ _, stable_is _ _, stable_is _ _, stable_is _ _, stable_is _ _, stable_is _ _, stable_is _ _, stable_is _ _, stable_is _ _, stable_is _ _, stable_is _ _, stable_is _ _, stable_is _ _, stable_is _ _, stable_is _ _, stable_is _ _, stable_is _ _, trivial⟩ ?_ (HB.out.drew) ?_ ?_
  · as_aux_lemma => kernel_rfl
  · as_aux_lemma => kernel_rfl
  · as_aux_lemma => kernel_rfl
  · as_aux_lemma => kernel_rfl
  · as_aux_lemma => kernel_rfl
  · exact ⟨rfl, rfl, rfl, rfl, rfl, rfl, trivial⟩
  · refine ⟨?_, ?_, ?_, ?_, ?_, ?_, ?_, ?_, ?_, ?_, ?_, ?_, ?_, ?_, ?_, ?_, ?_, ?_, ?_, trivial⟩
    · as_aux_lemma =>
        intro vals a W hS hL
        have e6 : a.tmps.getD 6 undef = .int .i64 2 := hL.1
        clear hL
        go_simp
        exact ⟨⟨fun d hd => by injection hd with hd; subst hd; rfl, fun h => by cases h⟩, hS, trivial⟩
    · as_aux_lemma =>
        intro vals a W hS hL
        have e8 : a.tmps.getD 8 undef = .int .i64 2 := hL.1
        clear hL
        go_simp
        exact ⟨⟨fun d hd => by injection hd with hd; subst hd; rfl, fun h => by cases h⟩, hS, trivial⟩
    · as_aux_lemma =>
        intro vals a W hS hL
        have e26 : a.tmps.getD 26 undef = .int .i64 2 := hL.1
        have e27 : a.tmps.getD 27 undef = .int .i64 2 := hL.2.1
        clear hL
        go_simp
        exact ⟨⟨fun d hd => by injection hd with hd; subst hd; rfl, fun h => by cases h⟩, hS, trivial⟩
    · as_aux_lemma =>
        intro vals a W hS hL
        have e28 : a.tmps.getD 28 undef = .bool false := hL.1
        clear hL
        go_simp
        exact ⟨⟨fun d hd => by injection hd with hd; subst hd; rfl, fun h => by cases h⟩, hS, trivial⟩
    · as_aux_lemma =>
        intro vals a W hS hL
        have e5 : a.tmps.getD 5 undef = .pointer (some ⟨w2.heap.size, 0, none⟩) := hL.1
        have e29 : a.tmps.getD 29 undef = .bool false := hL.2.1
        clear hL
        refine ⟨false, e29, ?_⟩
        rw [if_pos rfl]
        have kb : Bk W (w2.heap.size) 25 #[.int .i64 0, .int .i64 0] := hS.bk 1 rfl rfl
        have f0 := kb.cell 0
        have f1 := kb.cell 1
        clear kb
        go_simp
        exact ⟨⟨fun d hd => by injection hd with hd; subst hd; rfl, fun h => by cases h⟩, hS, trivial⟩
    · as_aux_lemma =>
        intro vals a W hS hL
        have e30 : a.tmps.getD 30 undef = .agg #[.int .i64 0, .int .i64 0] := hL.1
        have e29 : a.tmps.getD 29 undef = .bool false := hL.2.1
        clear hL
        refine ⟨false, e29, ?_⟩
        rw [if_pos rfl]
        go_simp
        refine (HOR.out W).mono ?_
        rintro e W' ⟨rfl, hb⟩
        exact ⟨_, rfl, ⟨fun d hd => by injection hd with hd; subst hd; rfl, fun h => by cases h⟩, hS.call hb, trivial⟩
    · as_aux_lemma =>
        intro vals a W hS hL
        have e7 : a.tmps.getD 7 undef = .pointer (some ⟨w3.heap.size, 0, none⟩) := hL.1
        have e29 : a.tmps.getD 29 undef = .bool false := hL.2.1
        clear hL
        refine ⟨false, e29, ?_⟩
        rw [if_pos rfl]
        have kb : Bk W (w3.heap.size) 34 #[.int .i64 0, .int .i64 0] := hS.bk 0 rfl rfl
        have f0 := kb.cell 0
        have f1 := kb.cell 1
        clear kb
        go_simp
        exact ⟨⟨fun d hd => by injection hd with hd; subst hd; rfl, fun h => by cases h⟩, hS, trivial⟩
    · as_aux_lemma =>
        intro vals a W hS hL
        have e31 : a.tmps.getD 31 undef = .agg #[.int .i64 0, .int .i64 0] := hL.1
        have e32 : a.tmps.getD 32 undef = .agg #[.int .i64 0, .int .i64 0] := hL.2.1
        have e29 : a.tmps.getD 29 undef = .bool false := hL.2.2.1
        clear hL
        refine ⟨false, e29, ?_⟩
        rw [if_pos rfl]
        go_simp
        exact ⟨⟨fun d hd => by injection hd with hd; subst hd; rfl, fun h => by cases h⟩, hS, trivial⟩
    · as_aux_lemma =>
        intro vals a W hS hL
        have e29 : a.tmps.getD 29 undef = .bool false := hL.1
        have e33 : a.tmps.getD 33 undef = .bool false := hL.2.1
        clear hL
        go_simp
        exact ⟨⟨fun d hd => by injection hd with hd; subst hd; rfl, fun h => by cases h⟩, hS, trivial⟩
    · as_aux_lemma =>
        intro vals a W hS hL
        have e34 : a.tmps.getD 34 undef = .bool false := hL.1
        clear hL
        go_simp
        exact ⟨⟨fun d hd => by injection hd with hd; subst hd; rfl, fun h => by cases h⟩, hS, trivial⟩
    · as_aux_lemma =>
        intro vals a W hS hL
        have e8 : a.tmps.getD 8 undef = .int .i64 2 := hL.1
        have e35 : a.tmps.getD 35 undef = .bool false := hL.2.1
        clear hL
        refine ⟨false, e35, ?_⟩
        rw [if_pos rfl]
        go_simp
        exact ⟨⟨fun d hd => by injection hd with hd; subst hd; rfl, fun h => by cases h⟩, hS, trivial⟩
    · as_aux_lemma =>
        intro vals a W hS hL
        have e36 : a.tmps.getD 36 undef = .int .i64 2 := hL.1
        have e35 : a.tmps.getD 35 undef = .bool false := hL.2.1
        clear hL
        refine ⟨false, e35, ?_⟩
        rw [if_pos rfl]
        go_simp
        exact ⟨⟨fun d hd => by injection hd with hd; subst hd; rfl, fun h => by cases h⟩, hS, trivial⟩
    · as_aux_lemma =>
        intro vals a W hS hL
        have e37 : a.tmps.getD 37 undef = .bool false := hL.1
        have e35 : a.tmps.getD 35 undef = .bool false := hL.2.1
        clear hL
        refine ⟨false, e35, ?_⟩
        rw [if_pos rfl]
        go_simp
        exact ⟨⟨fun d hd => by injection hd with hd; subst hd; rfl, fun h => by cases h⟩, hS, trivial⟩
    · as_aux_lemma =>
        intro vals a W hS hL
        have e5 : a.tmps.getD 5 undef = .pointer (some ⟨w2.heap.size, 0, none⟩) := hL.1
        have e38 : a.tmps.getD 38 undef = .bool false := hL.2.1
        clear hL
        refine ⟨false, e38, ?_⟩
        rw [if_neg (by decide)]
        exact ⟨⟨fun d hd => by injection hd with hd; subst hd; rfl, fun h => by cases h⟩, trivial⟩
    · as_aux_lemma =>
        intro vals a W hS hL
        have e39 : a.tmps.getD 39 undef = undef := hL.1
        have e38 : a.tmps.getD 38 undef = .bool false := hL.2.1
        clear hL
        refine ⟨false, e38, ?_⟩
        rw [if_neg (by decide)]
        exact ⟨⟨fun d hd => by injection hd with hd; subst hd; rfl, fun h => by cases h⟩, trivial⟩
    · as_aux_lemma =>
        intro vals a W hS hL
        have e1 : a.tmps.getD 1 undef = .string s := hL.1
        have e38 : a.tmps.getD 38 undef = .bool false := hL.2.1
        clear hL
        refine ⟨false, e38, ?_⟩
        rw [if_neg (by decide)]
        exact ⟨⟨fun d hd => by injection hd with hd; subst hd; rfl, fun h => by cases h⟩, trivial⟩
    · as_aux_lemma =>
        intro vals a W hS hL
        have e40 : a.tmps.getD 40 undef = undef := hL.1
        have e41 : a.tmps.getD 41 undef = undef := hL.2.1
        have e38 : a.tmps.getD 38 undef = .bool false := hL.2.2.1
        clear hL
        refine ⟨false, e38, ?_⟩
        rw [if_neg (by decide)]
        exact ⟨⟨fun d hd => by injection hd with hd; subst hd; rfl, fun h => by cases h⟩, trivial⟩
    · as_aux_lemma =>
        intro vals a W hS hL
        have e38 : a.tmps.getD 38 undef = .bool false := hL.1
        have e42 : a.tmps.getD 42 undef = undef := hL.2.1
        have e35 : a.tmps.getD 35 undef = .bool false := hL.2.2.1
        clear hL
        refine ⟨false, e35, ?_⟩
        rw [if_pos rfl]
        go_simp
        exact ⟨⟨fun d hd => by injection hd with hd; subst hd; rfl, fun h => by cases h⟩, hS, trivial⟩
    · as_aux_lemma =>
        intro vals a W hS hL
        have e35 : a.tmps.getD 35 undef = .bool false := hL.1
        have e43 : a.tmps.getD 43 undef = .bool false := hL.2.1
        clear hL
        go_simp
        exact ⟨⟨fun d hd => by injection hd with hd; subst hd; rfl, fun h => by cases h⟩, hS, trivial⟩
  · intro a W' vals hd hsz hT hF hv hP hS
    obtain rfl : vals = [] := List.eq_nil_of_length_eq_zero hv
    have hS2 : SX w 1 ([] : List Stp) [] ([(w3.heap.size, 34, #[.int .i64 0, .int .i64 0]), (w2.heap.size, 25, #[.int .i64 0, .int .i64 0]), (w.heap.size, 25, #[.int .i64 e0, .int .i64 f0])] : List (Nat × TypeId × Array Value)) W' := hS
    clear hS
    have hB0 := hS2
    have hB : SB w 1 ([(w3.heap.size, 34, #[.int .i64 0, .int .i64 0]), (w2.heap.size, 25, #[.int .i64 0, .int .i64 0]), (w.heap.size, 25, #[.int .i64 e0, .int .i64 f0])] : List (Nat × TypeId × Array Value)) W' := hB0
    clear hB0
    have e1 : a.tmps.getD 1 undef = .string s := hT 1 (by simp)
    have e2 : a.tmps.getD 2 undef = .pointer (some ⟨w.heap.size, 0, none⟩) := hT 2 (by simp)
    have e44 : a.tmps.getD 44 undef = .bool false := hT 44 (by simp)
    clear hT hF hP
    rw [act_lit 69 a hd hsz]
    simp only [List.range, List.range.loop, List.map, e1, e2, e44]
    clear hd hsz e1 e2 e44
    have HB4 := Lib.hid hB
    clear HB hB HOR
    have HB := HB4
    clear HB4
    have kc := HB.out.box (i := 2) rfl
    have cc0 := kc.cell 0
    have cc1 := kc.cell 1
    clear kc
    go_wp2_with fail
    refine (HG.out _).mono ?_
    rintro e w5 ⟨rfl, hb⟩
    have hB := HB.out.call hb
    clear hb HB
    have HB := Lib.hid hB
    clear hB
    clear cc0 cc1 HG
    have hbel := HB.out.bel
    go_wp2
    go_ret
    exact ⟨rfl, hbel⟩

set_option maxRecDepth 20000 in
set_option maxHeartbeats 2000000 in
theorem words_12_true {w : World} (HV : Tens w) (s : ByteArray) (hlen : ¬ 100 < s.size)
    (HP : Hid (∀ W : World, Calls Tryd.prog 27 #[.string s] W fun e w' => e = .returned (.tuple #[.agg #[.int .i64 0, .int .i64 0], .int .i64 12]) ∧ Below W.heap.size W w'))
    (HQ : Hid (∀ W : World, Calls Tryd.prog 28 #[.string s] W fun e w' => e = .returned (.tuple #[.agg #[.int .i64 0, .int .i64 0], .int .i64 12]) ∧ Below W.heap.size W w'))
    (r0 c0 : Nat) (h0 : r0 < 65536) (h1 : c0 < 256) :
    Calls Tryd.prog 5 #[.agg #[.int .i64 (r0 : Nat), .int .i64 (c0 : Nat)], .string s] w fun e w' => e = .returned (.bool true) ∧ Below w.heap.size w w' := by
  have HK : Hid (∀ W : World, Below w.heap.size w W → Calls Tryd.prog 9 #[] W fun e w' => e = .returned (.bool true) ∧ Below W.heap.size W w') := Lib.hid (fun W hb => known8_any (HV.below hb))
  have HG : Hid (∀ W : World, Calls Tryd.prog 13 #[.agg #[.int .i64 (r0 : Nat), .int .i64 (c0 : Nat)]] W fun e w' => e = .returned (.bool true) ∧ Below W.heap.size W w') := Lib.hid (fun W => by
    have := good_any (w := W) r0 c0
    rw [gd_nat h0 h1] at this
    exact this)
  obtain ⟨sx, hx⟩ : ∃ b : ByteArray, (⟨(wordL r0 c0).toArray⟩ : ByteArray) = b := ⟨_, rfl⟩
  have hxl : sx.data.toList = wordL r0 c0 := by rw [← hx]
  have HTC : Hid (∀ W : World, Below w.heap.size w W → Calls Tryd.prog 29 #[.agg #[.int .i64 (r0 : Nat), .int .i64 (c0 : Nat)]] W fun e w' => e = .returned (.string sx) ∧ Below W.heap.size W w') := Lib.hid (fun W hb => by
    have := text_any (HV.below hb) r0 c0 h0 h1
    unfold sL at this
    rwa [hx] at this)
  have HCT : Hid (∀ W : World, Calls Tryd.prog 30 #[.agg #[.int .i64 (r0 : Nat), .int .i64 (c0 : Nat)]] W fun e w' => e = .returned (.string sx) ∧ Below W.heap.size W w') := Lib.hid (fun W => by
    have := bText_any (w := W) r0 c0 h0 h1
    unfold sL at this
    rwa [hx] at this)
  have hxs : sx.size ≤ 140737488355328 := by
    have h2 := colL_len c0
    have h3 := dig_len (r0 + 1)
    have h4 := congrArg List.length hxl
    unfold wordL at h4
    rw [List.length_append] at h4
    simp at h4
    omega
  have HPT : Hid (∀ W : World, Calls Tryd.prog 27 #[.string sx] W fun e w' => e = .returned (.tuple #[.agg #[.int .i64 (r0 : Nat), .int .i64 (c0 : Nat)], .int .i64 0]) ∧ Below W.heap.size W w') := Lib.hid (fun W => by
    have := parse_any (w := W) sx hxs
    obtain ⟨v1, v2, v3⟩ := pv_ok (r := r0 + 1) (c := c0 + 1) (by omega) (by omega)
    rw [hxl, mach_word r0 c0 h0 h1, v1, v2, v3] at this
    unfold parV at this
    rw [show ((r0 + 1 : Nat) : Int) - 1 = (r0 : Int) by omega, show ((c0 + 1 : Nat) : Int) - 1 = (c0 : Int) by omega] at this
    exact this)
  have HOC := Lib.hid (fun W : World => ofCell_any (w := W) r0 c0)
  clear hx hxl hxs
  have HOR := Lib.hid (fun W : World => ofCell_any (w := W) 0 0)
  clear HV
  have hlen' : ¬ (100 : Int) < (s.size : Int) := by omega
  have HB : Hid (SB w 1 ([(w.heap.size, 25, #[.int .i64 (r0 : Nat), .int .i64 (c0 : Nat)])] : List (Nat × TypeId × Array Value)) (w.alloc (.cells #[.int .i64 (r0 : Nat), .int .i64 (c0 : Nat)] 25))) := Lib.hid (sb1 w 25 #[.int .i64 (r0 : Nat), .int .i64 (c0 : Nat)])
  go_enter Tryd.func5, Tryd.ntmps5
  go_wp2_with fail
  refine (HK.out _ HB.out.bel).mono ?_
  rintro e w1 ⟨rfl, hb⟩
  have hB := HB.out.call hb
  clear hb HB
  have HB := Lib.hid hB
  clear hB
  go_wp2_with fail
  refine (HP.out _).mono ?_
  rintro e w2 ⟨rfl, hb⟩
  have hB := HB.out.call hb
  have hB := hB.alloc 25 #[.int .i64 0, .int .i64 0]
  clear hb HB
  have HB := Lib.hid hB
  clear hB
  go_wp2_with fail
  refine (HQ.out _).mono ?_
  rintro e w3 ⟨rfl, hb⟩
  have hB := HB.out.call hb
  have hB := hB.alloc 34 #[.int .i64 0, .int .i64 0]
  clear hb HB
  have HB := Lib.hid hB
  clear hB
  clear HK HP HQ
  go_wp2_with fail
  refine wp_region_phases (S := (fun vals W => SX w 1 ([] : List Stp) vals ([(w3.heap.size, 34, #[.int .i64 0, .int .i64 0]), (w2.heap.size, 25, #[.int .i64 0, .int .i64 0]), (w.heap.size, 25, #[.int .i64 (r0 : Nat), .int .i64 (c0 : Nat)])] : List (Nat × TypeId × Array Value)) W)) (E := (fun _ _ => True)) [] [(1, Is (.string s)), (2, Is (.pointer (some ⟨w.heap.size, 0, none⟩))), (5, Is (.pointer (some ⟨w2.heap.size, 0, none⟩))), (6, Is (.int .i64 12)), (7, Is (.pointer (some ⟨w3.heap.size, 0, none⟩))), (8, Is (.int .i64 12))] [(26, Is (.int .i64 12)), (27, Is (.int .i64 12)), (28, Is (.bool false)), (29, Is (.bool false)), (30, Is (.agg #[.int .i64 0, .int .i64 0])), (31, Is (.agg #[.int .i64 0, .int .i64 0])), (32, Is (.agg #[.int .i64 0, .int .i64 0])), (33, Is (.bool false)), (34, Is (.bool false)), (35, Is (.bool false)), (36, Is (.int .i64 12)), (37, Is (.bool false)), (38, Is (.bool false)), (39, Is (undef)), (40, Is (undef)), (41, Is (undef)), (42, Is (undef)), (43, Is (.bool false)), (44, Is (.bool false))]
    [.op [6] none, .op [8] none, .op [26, 27] none, .op [28] none, .op [5, 29] (some (29, false)), .op [30, 29] (some (29, false)), .op [7, 29] (some (29, false)), .op [31, 32, 29] (some (29, false)), .op [29, 33] none, .op [34] none, .op [8, 35] (some (35, false)), .op [36, 35] (some (35, false)), .op [37, 35] (some (35, false)), .op [5, 38] (some (38, true)), .op [39, 38] (some (38, true)), .op [1, 38] (some (38, true)), .op [40, 41, 38] (some (38, true)), .op [38, 42, 35] (some (35, false)), .op [35, 43] none] (by as_aux_lemma => kernel_rfl) ?_ ?_ ?_ ?_ ?_ ⟨stable_is _ _, stable_is _ _, stable_is _ _, stable_is _ _, stable_is _ _, stable_is _ _, stable_is _ _, stable_is _ _, stable_is _ _, stable_is _ _, stable_is _ _, stable_is _ _, stable_is _ _, stable_is _ _, stable_is _ _, stable_is _ _, stable_is _ _, stable_is _ _, stable_is _ _, stable_is _ _, stable_is _ _, stable_is _ _, stable_is _ _, stable_is _ _, stable_is _ _, trivial⟩ ?_ (HB.out.drew) ?_ ?_
  · as_aux_lemma => kernel_rfl
  · as_aux_lemma => kernel_rfl
  · as_aux_lemma => kernel_rfl
  · as_aux_lemma => kernel_rfl
  · as_aux_lemma => kernel_rfl
  · exact ⟨rfl, rfl, rfl, rfl, rfl, rfl, trivial⟩
  · refine ⟨?_, ?_, ?_, ?_, ?_, ?_, ?_, ?_, ?_, ?_, ?_, ?_, ?_, ?_, ?_, ?_, ?_, ?_, ?_, trivial⟩
    · as_aux_lemma =>
        intro vals a W hS hL
        have e6 : a.tmps.getD 6 undef = .int .i64 12 := hL.1
        clear hL
        go_simp
        exact ⟨⟨fun d hd => by injection hd with hd; subst hd; rfl, fun h => by cases h⟩, hS, trivial⟩
    · as_aux_lemma =>
        intro vals a W hS hL
        have e8 : a.tmps.getD 8 undef = .int .i64 12 := hL.1
        clear hL
        go_simp
        exact ⟨⟨fun d hd => by injection hd with hd; subst hd; rfl, fun h => by cases h⟩, hS, trivial⟩
    · as_aux_lemma =>
        intro vals a W hS hL
        have e26 : a.tmps.getD 26 undef = .int .i64 12 := hL.1
        have e27 : a.tmps.getD 27 undef = .int .i64 12 := hL.2.1
        clear hL
        go_simp
        exact ⟨⟨fun d hd => by injection hd with hd; subst hd; rfl, fun h => by cases h⟩, hS, trivial⟩
    · as_aux_lemma =>
        intro vals a W hS hL
        have e28 : a.tmps.getD 28 undef = .bool false := hL.1
        clear hL
        go_simp
        exact ⟨⟨fun d hd => by injection hd with hd; subst hd; rfl, fun h => by cases h⟩, hS, trivial⟩
    · as_aux_lemma =>
        intro vals a W hS hL
        have e5 : a.tmps.getD 5 undef = .pointer (some ⟨w2.heap.size, 0, none⟩) := hL.1
        have e29 : a.tmps.getD 29 undef = .bool false := hL.2.1
        clear hL
        refine ⟨false, e29, ?_⟩
        rw [if_pos rfl]
        have kb : Bk W (w2.heap.size) 25 #[.int .i64 0, .int .i64 0] := hS.bk 1 rfl rfl
        have f0 := kb.cell 0
        have f1 := kb.cell 1
        clear kb
        go_simp
        exact ⟨⟨fun d hd => by injection hd with hd; subst hd; rfl, fun h => by cases h⟩, hS, trivial⟩
    · as_aux_lemma =>
        intro vals a W hS hL
        have e30 : a.tmps.getD 30 undef = .agg #[.int .i64 0, .int .i64 0] := hL.1
        have e29 : a.tmps.getD 29 undef = .bool false := hL.2.1
        clear hL
        refine ⟨false, e29, ?_⟩
        rw [if_pos rfl]
        go_simp
        refine (HOR.out W).mono ?_
        rintro e W' ⟨rfl, hb⟩
        exact ⟨_, rfl, ⟨fun d hd => by injection hd with hd; subst hd; rfl, fun h => by cases h⟩, hS.call hb, trivial⟩
    · as_aux_lemma =>
        intro vals a W hS hL
        have e7 : a.tmps.getD 7 undef = .pointer (some ⟨w3.heap.size, 0, none⟩) := hL.1
        have e29 : a.tmps.getD 29 undef = .bool false := hL.2.1
        clear hL
        refine ⟨false, e29, ?_⟩
        rw [if_pos rfl]
        have kb : Bk W (w3.heap.size) 34 #[.int .i64 0, .int .i64 0] := hS.bk 0 rfl rfl
        have f0 := kb.cell 0
        have f1 := kb.cell 1
        clear kb
        go_simp
        exact ⟨⟨fun d hd => by injection hd with hd; subst hd; rfl, fun h => by cases h⟩, hS, trivial⟩
    · as_aux_lemma =>
        intro vals a W hS hL
        have e31 : a.tmps.getD 31 undef = .agg #[.int .i64 0, .int .i64 0] := hL.1
        have e32 : a.tmps.getD 32 undef = .agg #[.int .i64 0, .int .i64 0] := hL.2.1
        have e29 : a.tmps.getD 29 undef = .bool false := hL.2.2.1
        clear hL
        refine ⟨false, e29, ?_⟩
        rw [if_pos rfl]
        go_simp
        exact ⟨⟨fun d hd => by injection hd with hd; subst hd; rfl, fun h => by cases h⟩, hS, trivial⟩
    · as_aux_lemma =>
        intro vals a W hS hL
        have e29 : a.tmps.getD 29 undef = .bool false := hL.1
        have e33 : a.tmps.getD 33 undef = .bool false := hL.2.1
        clear hL
        go_simp
        exact ⟨⟨fun d hd => by injection hd with hd; subst hd; rfl, fun h => by cases h⟩, hS, trivial⟩
    · as_aux_lemma =>
        intro vals a W hS hL
        have e34 : a.tmps.getD 34 undef = .bool false := hL.1
        clear hL
        go_simp
        exact ⟨⟨fun d hd => by injection hd with hd; subst hd; rfl, fun h => by cases h⟩, hS, trivial⟩
    · as_aux_lemma =>
        intro vals a W hS hL
        have e8 : a.tmps.getD 8 undef = .int .i64 12 := hL.1
        have e35 : a.tmps.getD 35 undef = .bool false := hL.2.1
        clear hL
        refine ⟨false, e35, ?_⟩
        rw [if_pos rfl]
        go_simp
        exact ⟨⟨fun d hd => by injection hd with hd; subst hd; rfl, fun h => by cases h⟩, hS, trivial⟩
    · as_aux_lemma =>
        intro vals a W hS hL
        have e36 : a.tmps.getD 36 undef = .int .i64 12 := hL.1
        have e35 : a.tmps.getD 35 undef = .bool false := hL.2.1
        clear hL
        refine ⟨false, e35, ?_⟩
        rw [if_pos rfl]
        go_simp
        exact ⟨⟨fun d hd => by injection hd with hd; subst hd; rfl, fun h => by cases h⟩, hS, trivial⟩
    · as_aux_lemma =>
        intro vals a W hS hL
        have e37 : a.tmps.getD 37 undef = .bool false := hL.1
        have e35 : a.tmps.getD 35 undef = .bool false := hL.2.1
        clear hL
        refine ⟨false, e35, ?_⟩
        rw [if_pos rfl]
        go_simp
        exact ⟨⟨fun d hd => by injection hd with hd; subst hd; rfl, fun h => by cases h⟩, hS, trivial⟩
    · as_aux_lemma =>
        intro vals a W hS hL
        have e5 : a.tmps.getD 5 undef = .pointer (some ⟨w2.heap.size, 0, none⟩) := hL.1
        have e38 : a.tmps.getD 38 undef = .bool false := hL.2.1
        clear hL
        refine ⟨false, e38, ?_⟩
        rw [if_neg (by decide)]
        exact ⟨⟨fun d hd => by injection hd with hd; subst hd; rfl, fun h => by cases h⟩, trivial⟩
    · as_aux_lemma =>
        intro vals a W hS hL
        have e39 : a.tmps.getD 39 undef = undef := hL.1
        have e38 : a.tmps.getD 38 undef = .bool false := hL.2.1
        clear hL
        refine ⟨false, e38, ?_⟩
        rw [if_neg (by decide)]
        exact ⟨⟨fun d hd => by injection hd with hd; subst hd; rfl, fun h => by cases h⟩, trivial⟩
    · as_aux_lemma =>
        intro vals a W hS hL
        have e1 : a.tmps.getD 1 undef = .string s := hL.1
        have e38 : a.tmps.getD 38 undef = .bool false := hL.2.1
        clear hL
        refine ⟨false, e38, ?_⟩
        rw [if_neg (by decide)]
        exact ⟨⟨fun d hd => by injection hd with hd; subst hd; rfl, fun h => by cases h⟩, trivial⟩
    · as_aux_lemma =>
        intro vals a W hS hL
        have e40 : a.tmps.getD 40 undef = undef := hL.1
        have e41 : a.tmps.getD 41 undef = undef := hL.2.1
        have e38 : a.tmps.getD 38 undef = .bool false := hL.2.2.1
        clear hL
        refine ⟨false, e38, ?_⟩
        rw [if_neg (by decide)]
        exact ⟨⟨fun d hd => by injection hd with hd; subst hd; rfl, fun h => by cases h⟩, trivial⟩
    · as_aux_lemma =>
        intro vals a W hS hL
        have e38 : a.tmps.getD 38 undef = .bool false := hL.1
        have e42 : a.tmps.getD 42 undef = undef := hL.2.1
        have e35 : a.tmps.getD 35 undef = .bool false := hL.2.2.1
        clear hL
        refine ⟨false, e35, ?_⟩
        rw [if_pos rfl]
        go_simp
        exact ⟨⟨fun d hd => by injection hd with hd; subst hd; rfl, fun h => by cases h⟩, hS, trivial⟩
    · as_aux_lemma =>
        intro vals a W hS hL
        have e35 : a.tmps.getD 35 undef = .bool false := hL.1
        have e43 : a.tmps.getD 43 undef = .bool false := hL.2.1
        clear hL
        go_simp
        exact ⟨⟨fun d hd => by injection hd with hd; subst hd; rfl, fun h => by cases h⟩, hS, trivial⟩
  · intro a W' vals hd hsz hT hF hv hP hS
    obtain rfl : vals = [] := List.eq_nil_of_length_eq_zero hv
    have hS2 : SX w 1 ([] : List Stp) [] ([(w3.heap.size, 34, #[.int .i64 0, .int .i64 0]), (w2.heap.size, 25, #[.int .i64 0, .int .i64 0]), (w.heap.size, 25, #[.int .i64 (r0 : Nat), .int .i64 (c0 : Nat)])] : List (Nat × TypeId × Array Value)) W' := hS
    clear hS
    have hB0 := hS2
    have hB : SB w 1 ([(w3.heap.size, 34, #[.int .i64 0, .int .i64 0]), (w2.heap.size, 25, #[.int .i64 0, .int .i64 0]), (w.heap.size, 25, #[.int .i64 (r0 : Nat), .int .i64 (c0 : Nat)])] : List (Nat × TypeId × Array Value)) W' := hB0
    clear hB0
    have e1 : a.tmps.getD 1 undef = .string s := hT 1 (by simp)
    have e2 : a.tmps.getD 2 undef = .pointer (some ⟨w.heap.size, 0, none⟩) := hT 2 (by simp)
    have e44 : a.tmps.getD 44 undef = .bool false := hT 44 (by simp)
    clear hT hF hP
    rw [act_lit 69 a hd hsz]
    simp only [List.range, List.range.loop, List.map, e1, e2, e44]
    clear hd hsz e1 e2 e44
    have HB4 := Lib.hid hB
    clear HB hB HOR
    have HB := HB4
    clear HB4
    have kc := HB.out.box (i := 2) rfl
    have cc0 := kc.cell 0
    have cc1 := kc.cell 1
    clear kc
    go_wp2_with fail
    refine (HG.out _).mono ?_
    rintro e w5 ⟨rfl, hb⟩
    have hB := HB.out.call hb
    clear hb HB
    have HB := Lib.hid hB
    clear hB
    clear cc0 cc1 HG
    have kc := HB.out.box (i := 2) rfl
    have cc0 := kc.cell 0
    have cc1 := kc.cell 1
    clear kc
    go_wp2_with fail
    refine (HTC.out _ HB.out.bel).mono ?_
    rintro e w6 ⟨rfl, hb⟩
    have hB := HB.out.call hb
    clear hb HB
    have HB := Lib.hid hB
    clear hB
    go_wp2_with fail
    refine (HPT.out _).mono ?_
    rintro e w7 ⟨rfl, hb⟩
    have hB := HB.out.call hb
    have hB := hB.alloc 25 #[.int .i64 (r0 : Nat), .int .i64 (c0 : Nat)]
    clear hb HB
    have HB := Lib.hid hB
    clear hB
    clear cc0 cc1 HPT
    go_wp2_with fail
    refine wp_region_phases (S := (fun vals W => SX w 1 ([] : List Stp) vals ([(w7.heap.size, 25, #[.int .i64 (r0 : Nat), .int .i64 (c0 : Nat)]), (w3.heap.size, 34, #[.int .i64 0, .int .i64 0]), (w2.heap.size, 25, #[.int .i64 0, .int .i64 0]), (w.heap.size, 25, #[.int .i64 (r0 : Nat), .int .i64 (c0 : Nat)])] : List (Nat × TypeId × Array Value)) W)) (E := (fun _ _ => True)) [] [(2, Is (.pointer (some ⟨w.heap.size, 0, none⟩))), (9, Is (.pointer (some ⟨w7.heap.size, 0, none⟩))), (10, Is (.int .i64 0))] [(54, Is (.agg #[.int .i64 (r0 : Nat), .int .i64 (c0 : Nat)])), (55, Is (.string sx)), (56, Is (.agg #[.int .i64 (r0 : Nat), .int .i64 (c0 : Nat)])), (57, Is (.agg #[.int .i64 (r0 : Nat), .int .i64 (c0 : Nat)])), (58, Is (.string sx)), (59, Is (.bool true)), (60, Is (.bool true)), (61, Is (.int .i64 0)), (62, Is (.bool true)), (63, Is (.bool true)), (64, Is (.bool true)), (65, Is (.agg #[.int .i64 (r0 : Nat), .int .i64 (c0 : Nat)])), (66, Is (.agg #[.int .i64 (r0 : Nat), .int .i64 (c0 : Nat)])), (67, Is (.bool true)), (68, Is (.bool true)), (4, Is (.bool true))]
      [.op [2] none, .op [54] none, .op [2] none, .op [56] none, .op [57] none, .op [55, 58] none, .op [59] none, .op [10, 60] (some (60, true)), .op [61, 60] (some (60, true)), .op [60, 62] none, .op [63] none, .op [9, 64] (some (64, true)), .op [2, 64] (some (64, true)), .op [65, 66, 64] (some (64, true)), .op [64, 67] none, .op [68] none] (by as_aux_lemma => kernel_rfl) ?_ ?_ ?_ ?_ ?_ ⟨stable_is _ _, stable_is _ _, stable_is _ _, stable_is _ _, stable_is _ _, stable_is _ _, stable_is _ _, stable_is _ _, stable_is _ _, stable_is _ _, stable_is _ _, stable_is _ _, stable_is _ _, stable_is _ _, stable_is _ _, stable_is _ _, stable_is _ _, stable_is _ _, stable_is _ _, trivial⟩ ?_ (HB.out.drew) ?_ ?_
    · as_aux_lemma => kernel_rfl
    · as_aux_lemma => kernel_rfl
    · as_aux_lemma => kernel_rfl
    · as_aux_lemma => kernel_rfl
    · as_aux_lemma => kernel_rfl
    · exact ⟨rfl, rfl, rfl, trivial⟩
    · refine ⟨?_, ?_, ?_, ?_, ?_, ?_, ?_, ?_, ?_, ?_, ?_, ?_, ?_, ?_, ?_, ?_, trivial⟩
      · as_aux_lemma =>
          intro vals a W hS hL
          have e2 : a.tmps.getD 2 undef = .pointer (some ⟨w.heap.size, 0, none⟩) := hL.1
          clear hL
          have kb : Bk W (w.heap.size) 25 #[.int .i64 (r0 : Nat), .int .i64 (c0 : Nat)] := hS.bk 3 rfl rfl
          have f0 := kb.cell 0
          have f1 := kb.cell 1
          clear kb
          go_simp
          exact ⟨⟨fun d hd => by injection hd with hd; subst hd; rfl, fun h => by cases h⟩, hS, trivial⟩
      · as_aux_lemma =>
          intro vals a W hS hL
          have e54 : a.tmps.getD 54 undef = .agg #[.int .i64 (r0 : Nat), .int .i64 (c0 : Nat)] := hL.1
          clear hL
          go_simp
          refine (HTC.out _ (SX.bel hS)).mono ?_
          rintro e W' ⟨rfl, hb⟩
          exact ⟨_, rfl, ⟨fun d hd => by injection hd with hd; subst hd; rfl, fun h => by cases h⟩, hS.call hb, trivial⟩
      · as_aux_lemma =>
          intro vals a W hS hL
          have e2 : a.tmps.getD 2 undef = .pointer (some ⟨w.heap.size, 0, none⟩) := hL.1
          clear hL
          have kb : Bk W (w.heap.size) 25 #[.int .i64 (r0 : Nat), .int .i64 (c0 : Nat)] := hS.bk 3 rfl rfl
          have f0 := kb.cell 0
          have f1 := kb.cell 1
          clear kb
          go_simp
          exact ⟨⟨fun d hd => by injection hd with hd; subst hd; rfl, fun h => by cases h⟩, hS, trivial⟩
      · as_aux_lemma =>
          intro vals a W hS hL
          have e56 : a.tmps.getD 56 undef = .agg #[.int .i64 (r0 : Nat), .int .i64 (c0 : Nat)] := hL.1
          clear hL
          go_simp
          refine (HOC.out W).mono ?_
          rintro e W' ⟨rfl, hb⟩
          exact ⟨_, rfl, ⟨fun d hd => by injection hd with hd; subst hd; rfl, fun h => by cases h⟩, hS.call hb, trivial⟩
      · as_aux_lemma =>
          intro vals a W hS hL
          have e57 : a.tmps.getD 57 undef = .agg #[.int .i64 (r0 : Nat), .int .i64 (c0 : Nat)] := hL.1
          clear hL
          go_simp
          refine (HCT.out W).mono ?_
          rintro e W' ⟨rfl, hb⟩
          exact ⟨_, rfl, ⟨fun d hd => by injection hd with hd; subst hd; rfl, fun h => by cases h⟩, hS.call hb, trivial⟩
      · as_aux_lemma =>
          intro vals a W hS hL
          have e55 : a.tmps.getD 55 undef = .string sx := hL.1
          have e58 : a.tmps.getD 58 undef = .string sx := hL.2.1
          clear hL
          go_simp
          exact ⟨⟨fun d hd => by injection hd with hd; subst hd; rfl, fun h => by cases h⟩, hS, trivial⟩
      · as_aux_lemma =>
          intro vals a W hS hL
          have e59 : a.tmps.getD 59 undef = .bool true := hL.1
          clear hL
          go_simp
          exact ⟨⟨fun d hd => by injection hd with hd; subst hd; rfl, fun h => by cases h⟩, hS, trivial⟩
      · as_aux_lemma =>
          intro vals a W hS hL
          have e10 : a.tmps.getD 10 undef = .int .i64 0 := hL.1
          have e60 : a.tmps.getD 60 undef = .bool true := hL.2.1
          clear hL
          refine ⟨true, e60, ?_⟩
          rw [if_pos rfl]
          go_simp
          exact ⟨⟨fun d hd => by injection hd with hd; subst hd; rfl, fun h => by cases h⟩, hS, trivial⟩
      · as_aux_lemma =>
          intro vals a W hS hL
          have e61 : a.tmps.getD 61 undef = .int .i64 0 := hL.1
          have e60 : a.tmps.getD 60 undef = .bool true := hL.2.1
          clear hL
          refine ⟨true, e60, ?_⟩
          rw [if_pos rfl]
          go_simp
          exact ⟨⟨fun d hd => by injection hd with hd; subst hd; rfl, fun h => by cases h⟩, hS, trivial⟩
      · as_aux_lemma =>
          intro vals a W hS hL
          have e60 : a.tmps.getD 60 undef = .bool true := hL.1
          have e62 : a.tmps.getD 62 undef = .bool true := hL.2.1
          clear hL
          go_simp
          exact ⟨⟨fun d hd => by injection hd with hd; subst hd; rfl, fun h => by cases h⟩, hS, trivial⟩
      · as_aux_lemma =>
          intro vals a W hS hL
          have e63 : a.tmps.getD 63 undef = .bool true := hL.1
          clear hL
          go_simp
          exact ⟨⟨fun d hd => by injection hd with hd; subst hd; rfl, fun h => by cases h⟩, hS, trivial⟩
      · as_aux_lemma =>
          intro vals a W hS hL
          have e9 : a.tmps.getD 9 undef = .pointer (some ⟨w7.heap.size, 0, none⟩) := hL.1
          have e64 : a.tmps.getD 64 undef = .bool true := hL.2.1
          clear hL
          refine ⟨true, e64, ?_⟩
          rw [if_pos rfl]
          have kb : Bk W (w7.heap.size) 25 #[.int .i64 (r0 : Nat), .int .i64 (c0 : Nat)] := hS.bk 0 rfl rfl
          have f0 := kb.cell 0
          have f1 := kb.cell 1
          clear kb
          go_simp
          exact ⟨⟨fun d hd => by injection hd with hd; subst hd; rfl, fun h => by cases h⟩, hS, trivial⟩
      · as_aux_lemma =>
          intro vals a W hS hL
          have e2 : a.tmps.getD 2 undef = .pointer (some ⟨w.heap.size, 0, none⟩) := hL.1
          have e64 : a.tmps.getD 64 undef = .bool true := hL.2.1
          clear hL
          refine ⟨true, e64, ?_⟩
          rw [if_pos rfl]
          have kb : Bk W (w.heap.size) 25 #[.int .i64 (r0 : Nat), .int .i64 (c0 : Nat)] := hS.bk 3 rfl rfl
          have f0 := kb.cell 0
          have f1 := kb.cell 1
          clear kb
          go_simp
          exact ⟨⟨fun d hd => by injection hd with hd; subst hd; rfl, fun h => by cases h⟩, hS, trivial⟩
      · as_aux_lemma =>
          intro vals a W hS hL
          have e65 : a.tmps.getD 65 undef = .agg #[.int .i64 (r0 : Nat), .int .i64 (c0 : Nat)] := hL.1
          have e66 : a.tmps.getD 66 undef = .agg #[.int .i64 (r0 : Nat), .int .i64 (c0 : Nat)] := hL.2.1
          have e64 : a.tmps.getD 64 undef = .bool true := hL.2.2.1
          clear hL
          refine ⟨true, e64, ?_⟩
          rw [if_pos rfl]
          go_simp
          exact ⟨⟨fun d hd => by injection hd with hd; subst hd; rfl, fun h => by cases h⟩, hS, trivial⟩
      · as_aux_lemma =>
          intro vals a W hS hL
          have e64 : a.tmps.getD 64 undef = .bool true := hL.1
          have e67 : a.tmps.getD 67 undef = .bool true := hL.2.1
          clear hL
          go_simp
          exact ⟨⟨fun d hd => by injection hd with hd; subst hd; rfl, fun h => by cases h⟩, hS, trivial⟩
      · as_aux_lemma =>
          intro vals a W hS hL
          have e68 : a.tmps.getD 68 undef = .bool true := hL.1
          clear hL
          go_simp
          exact ⟨⟨fun d hd => by injection hd with hd; subst hd; rfl, fun h => by cases h⟩, hS, trivial⟩
    · intro a W' vals hd hsz hT hF hv hP hS
      obtain rfl : vals = [] := List.eq_nil_of_length_eq_zero hv
      have hS2 : SX w 1 ([] : List Stp) [] ([(w7.heap.size, 25, #[.int .i64 (r0 : Nat), .int .i64 (c0 : Nat)]), (w3.heap.size, 34, #[.int .i64 0, .int .i64 0]), (w2.heap.size, 25, #[.int .i64 0, .int .i64 0]), (w.heap.size, 25, #[.int .i64 (r0 : Nat), .int .i64 (c0 : Nat)])] : List (Nat × TypeId × Array Value)) W' := hS
      clear hS
      have hB0 := hS2
      have hB : SB w 1 ([(w7.heap.size, 25, #[.int .i64 (r0 : Nat), .int .i64 (c0 : Nat)]), (w3.heap.size, 34, #[.int .i64 0, .int .i64 0]), (w2.heap.size, 25, #[.int .i64 0, .int .i64 0]), (w.heap.size, 25, #[.int .i64 (r0 : Nat), .int .i64 (c0 : Nat)])] : List (Nat × TypeId × Array Value)) W' := hB0
      clear hB0
      have e4 : a.tmps.getD 4 undef = .bool true := hT 4 (by simp)
      clear hT hF hP
      go_wp2
      refine bodyPost_ret (v := .bool true) ?_ hd ⟨rfl, hB.bel⟩
      rw [Array.getD_eq_getD_getElem?] at e4
      simp [results, Tryd.results5, go_sem, e4]

set_option maxRecDepth 20000 in
set_option maxHeartbeats 2000000 in
theorem words_12_false {w : World} (HV : Tens w) (s : ByteArray) (hlen : ¬ 100 < s.size)
    (HP : Hid (∀ W : World, Calls Tryd.prog 27 #[.string s] W fun e w' => e = .returned (.tuple #[.agg #[.int .i64 0, .int .i64 0], .int .i64 12]) ∧ Below W.heap.size W w'))
    (HQ : Hid (∀ W : World, Calls Tryd.prog 28 #[.string s] W fun e w' => e = .returned (.tuple #[.agg #[.int .i64 0, .int .i64 0], .int .i64 12]) ∧ Below W.heap.size W w'))
    (e0 f0 : Int) (hg : gdB e0 f0 = false) :
    Calls Tryd.prog 5 #[.agg #[.int .i64 e0, .int .i64 f0], .string s] w fun e w' => e = .returned (.bool true) ∧ Below w.heap.size w w' := by
  have HK : Hid (∀ W : World, Below w.heap.size w W → Calls Tryd.prog 9 #[] W fun e w' => e = .returned (.bool true) ∧ Below W.heap.size W w') := Lib.hid (fun W hb => known8_any (HV.below hb))
  have HG : Hid (∀ W : World, Calls Tryd.prog 13 #[.agg #[.int .i64 e0, .int .i64 f0]] W fun e w' => e = .returned (.bool false) ∧ Below W.heap.size W w') := Lib.hid (fun W => by
    have := good_any (w := W) e0 f0
    rw [hg] at this
    exact this)
  clear hg
  have HOR := Lib.hid (fun W : World => ofCell_any (w := W) 0 0)
  clear HV
  have hlen' : ¬ (100 : Int) < (s.size : Int) := by omega
  have HB : Hid (SB w 1 ([(w.heap.size, 25, #[.int .i64 e0, .int .i64 f0])] : List (Nat × TypeId × Array Value)) (w.alloc (.cells #[.int .i64 e0, .int .i64 f0] 25))) := Lib.hid (sb1 w 25 #[.int .i64 e0, .int .i64 f0])
  go_enter Tryd.func5, Tryd.ntmps5
  go_wp2_with fail
  refine (HK.out _ HB.out.bel).mono ?_
  rintro e w1 ⟨rfl, hb⟩
  have hB := HB.out.call hb
  clear hb HB
  have HB := Lib.hid hB
  clear hB
  go_wp2_with fail
  refine (HP.out _).mono ?_
  rintro e w2 ⟨rfl, hb⟩
  have hB := HB.out.call hb
  have hB := hB.alloc 25 #[.int .i64 0, .int .i64 0]
  clear hb HB
  have HB := Lib.hid hB
  clear hB
  go_wp2_with fail
  refine (HQ.out _).mono ?_
  rintro e w3 ⟨rfl, hb⟩
  have hB := HB.out.call hb
  have hB := hB.alloc 34 #[.int .i64 0, .int .i64 0]
  clear hb HB
  have HB := Lib.hid hB
  clear hB
  clear HK HP HQ
  go_wp2_with fail
  refine wp_region_phases (S := (fun vals W => SX w 1 ([] : List Stp) vals ([(w3.heap.size, 34, #[.int .i64 0, .int .i64 0]), (w2.heap.size, 25, #[.int .i64 0, .int .i64 0]), (w.heap.size, 25, #[.int .i64 e0, .int .i64 f0])] : List (Nat × TypeId × Array Value)) W)) (E := (fun _ _ => True)) [] [(1, Is (.string s)), (2, Is (.pointer (some ⟨w.heap.size, 0, none⟩))), (5, Is (.pointer (some ⟨w2.heap.size, 0, none⟩))), (6, Is (.int .i64 12)), (7, Is (.pointer (some ⟨w3.heap.size, 0, none⟩))), (8, Is (.int .i64 12))] [(26, Is (.int .i64 12)), (27, Is (.int .i64 12)), (28, Is (.bool false)), (29, Is (.bool false)), (30, Is (.agg #[.int .i64 0, .int .i64 0])), (31, Is (.agg #[.int .i64 0, .int .i64 0])), (32, Is (.agg #[.int .i64 0, .int .i64 0])), (33, Is (.bool false)), (34, Is (.bool false)), (35, Is (.bool false)), (36, Is (.int .i64 12)), (37, Is (.bool false)), (38, Is (.bool false)), (39, Is (undef)), (40, Is (undef)), (41, Is (undef)), (42, Is (undef)), (43, Is (.bool false)), (44, Is (.bool false))]
    [.op [6] none, .op [8] none, .op [26, 27] none, .op [28] none, .op [5, 29] (some (29, false)), .op [30, 29] (some (29, false)), .op [7, 29] (some (29, false)), .op [31, 32, 29] (some (29, false)), .op [29, 33] none, .op [34] none, .op [8, 35] (some (35, false)), .op [36, 35] (some (35, false)), .op [37, 35] (some (35, false)), .op [5, 38] (some (38, true)), .op [39, 38] (some (38, true)), .op [1, 38] (some (38, true)), .op [40, 41, 38] (some (38, true)), .op [38, 42, 35] (some (35, false)), .op [35, 43] none] (by as_aux_lemma => kernel_rfl) ?_ ?_ ?_ ?_ ?_ ⟨stable_is _ _, stable_is _ _, stable_is _ _, stable_is _ _, stable_is _ _, stable_is _ _, stable_is _ _, stable_is _ _, stable_is _ _, stable_is _ _, stable_is _ _, stable_is _ _, stable_is _ _, stable_is _ _, stable_is _ _, stable_is _ _, stable_is _ _, stable_is _ _, stable_is _ _, stable_is _ _, stable_is _ _, stable_is _ _, stable_is _ _, stable_is _ _, stable_is _ _, trivial⟩ ?_ (HB.out.drew) ?_ ?_
  · as_aux_lemma => kernel_rfl
  · as_aux_lemma => kernel_rfl
  · as_aux_lemma => kernel_rfl
  · as_aux_lemma => kernel_rfl
  · as_aux_lemma => kernel_rfl
  · exact ⟨rfl, rfl, rfl, rfl, rfl, rfl, trivial⟩
  · refine ⟨?_, ?_, ?_, ?_, ?_, ?_, ?_, ?_, ?_, ?_, ?_, ?_, ?_, ?_, ?_, ?_, ?_, ?_, ?_, trivial⟩
    · as_aux_lemma =>
        intro vals a W hS hL
        have e6 : a.tmps.getD 6 undef = .int .i64 12 := hL.1
        clear hL
        go_simp
        exact ⟨⟨fun d hd => by injection hd with hd; subst hd; rfl, fun h => by cases h⟩, hS, trivial⟩
    · as_aux_lemma =>
        intro vals a W hS hL
        have e8 : a.tmps.getD 8 undef = .int .i64 12 := hL.1
        clear hL
        go_simp
        exact ⟨⟨fun d hd => by injection hd with hd; subst hd; rfl, fun h => by cases h⟩, hS, trivial⟩
    · as_aux_lemma =>
        intro vals a W hS hL
        have e26 : a.tmps.getD 26 undef = .int .i64 12 := hL.1
        have e27 : a.tmps.getD 27 undef = .int .i64 12 := hL.2.1
        clear hL
        go_simp
        exact ⟨⟨fun d hd => by injection hd with hd; subst hd; rfl, fun h => by cases h⟩, hS, trivial⟩
    · as_aux_lemma =>
        intro vals a W hS hL
        have e28 : a.tmps.getD 28 undef = .bool false := hL.1
        clear hL
        go_simp
        exact ⟨⟨fun d hd => by injection hd with hd; subst hd; rfl, fun h => by cases h⟩, hS, trivial⟩
    · as_aux_lemma =>
        intro vals a W hS hL
        have e5 : a.tmps.getD 5 undef = .pointer (some ⟨w2.heap.size, 0, none⟩) := hL.1
        have e29 : a.tmps.getD 29 undef = .bool false := hL.2.1
        clear hL
        refine ⟨false, e29, ?_⟩
        rw [if_pos rfl]
        have kb : Bk W (w2.heap.size) 25 #[.int .i64 0, .int .i64 0] := hS.bk 1 rfl rfl
        have f0 := kb.cell 0
        have f1 := kb.cell 1
        clear kb
        go_simp
        exact ⟨⟨fun d hd => by injection hd with hd; subst hd; rfl, fun h => by cases h⟩, hS, trivial⟩
    · as_aux_lemma =>
        intro vals a W hS hL
        have e30 : a.tmps.getD 30 undef = .agg #[.int .i64 0, .int .i64 0] := hL.1
        have e29 : a.tmps.getD 29 undef = .bool false := hL.2.1
        clear hL
        refine ⟨false, e29, ?_⟩
        rw [if_pos rfl]
        go_simp
        refine (HOR.out W).mono ?_
        rintro e W' ⟨rfl, hb⟩
        exact ⟨_, rfl, ⟨fun d hd => by injection hd with hd; subst hd; rfl, fun h => by cases h⟩, hS.call hb, trivial⟩
    · as_aux_lemma =>
        intro vals a W hS hL
        have e7 : a.tmps.getD 7 undef = .pointer (some ⟨w3.heap.size, 0, none⟩) := hL.1
        have e29 : a.tmps.getD 29 undef = .bool false := hL.2.1
        clear hL
        refine ⟨false, e29, ?_⟩
        rw [if_pos rfl]
        have kb : Bk W (w3.heap.size) 34 #[.int .i64 0, .int .i64 0] := hS.bk 0 rfl rfl
        have f0 := kb.cell 0
        have f1 := kb.cell 1
        clear kb
        go_simp
        exact ⟨⟨fun d hd => by injection hd with hd; subst hd; rfl, fun h => by cases h⟩, hS, trivial⟩
    · as_aux_lemma =>
        intro vals a W hS hL
        have e31 : a.tmps.getD 31 undef = .agg #[.int .i64 0, .int .i64 0] := hL.1
        have e32 : a.tmps.getD 32 undef = .agg #[.int .i64 0, .int .i64 0] := hL.2.1
        have e29 : a.tmps.getD 29 undef = .bool false := hL.2.2.1
        clear hL
        refine ⟨false, e29, ?_⟩
        rw [if_pos rfl]
        go_simp
        exact ⟨⟨fun d hd => by injection hd with hd; subst hd; rfl, fun h => by cases h⟩, hS, trivial⟩
    · as_aux_lemma =>
        intro vals a W hS hL
        have e29 : a.tmps.getD 29 undef = .bool false := hL.1
        have e33 : a.tmps.getD 33 undef = .bool false := hL.2.1
        clear hL
        go_simp
        exact ⟨⟨fun d hd => by injection hd with hd; subst hd; rfl, fun h => by cases h⟩, hS, trivial⟩
    · as_aux_lemma =>
        intro vals a W hS hL
        have e34 : a.tmps.getD 34 undef = .bool false := hL.1
        clear hL
        go_simp
        exact ⟨⟨fun d hd => by injection hd with hd; subst hd; rfl, fun h => by cases h⟩, hS, trivial⟩
    · as_aux_lemma =>
        intro vals a W hS hL
        have e8 : a.tmps.getD 8 undef = .int .i64 12 := hL.1
        have e35 : a.tmps.getD 35 undef = .bool false := hL.2.1
        clear hL
        refine ⟨false, e35, ?_⟩
        rw [if_pos rfl]
        go_simp
        exact ⟨⟨fun d hd => by injection hd with hd; subst hd; rfl, fun h => by cases h⟩, hS, trivial⟩
    · as_aux_lemma =>
        intro vals a W hS hL
        have e36 : a.tmps.getD 36 undef = .int .i64 12 := hL.1
        have e35 : a.tmps.getD 35 undef = .bool false := hL.2.1
        clear hL
        refine ⟨false, e35, ?_⟩
        rw [if_pos rfl]
        go_simp
        exact ⟨⟨fun d hd => by injection hd with hd; subst hd; rfl, fun h => by cases h⟩, hS, trivial⟩
    · as_aux_lemma =>
        intro vals a W hS hL
        have e37 : a.tmps.getD 37 undef = .bool false := hL.1
        have e35 : a.tmps.getD 35 undef = .bool false := hL.2.1
        clear hL
        refine ⟨false, e35, ?_⟩
        rw [if_pos rfl]
        go_simp
        exact ⟨⟨fun d hd => by injection hd with hd; subst hd; rfl, fun h => by cases h⟩, hS, trivial⟩
    · as_aux_lemma =>
        intro vals a W hS hL
        have e5 : a.tmps.getD 5 undef = .pointer (some ⟨w2.heap.size, 0, none⟩) := hL.1
        have e38 : a.tmps.getD 38 undef = .bool false := hL.2.1
        clear hL
        refine ⟨false, e38, ?_⟩
        rw [if_neg (by decide)]
        exact ⟨⟨fun d hd => by injection hd with hd; subst hd; rfl, fun h => by cases h⟩, trivial⟩
    · as_aux_lemma =>
        intro vals a W hS hL
        have e39 : a.tmps.getD 39 undef = undef := hL.1
        have e38 : a.tmps.getD 38 undef = .bool false := hL.2.1
        clear hL
        refine ⟨false, e38, ?_⟩
        rw [if_neg (by decide)]
        exact ⟨⟨fun d hd => by injection hd with hd; subst hd; rfl, fun h => by cases h⟩, trivial⟩
    · as_aux_lemma =>
        intro vals a W hS hL
        have e1 : a.tmps.getD 1 undef = .string s := hL.1
        have e38 : a.tmps.getD 38 undef = .bool false := hL.2.1
        clear hL
        refine ⟨false, e38, ?_⟩
        rw [if_neg (by decide)]
        exact ⟨⟨fun d hd => by injection hd with hd; subst hd; rfl, fun h => by cases h⟩, trivial⟩
    · as_aux_lemma =>
        intro vals a W hS hL
        have e40 : a.tmps.getD 40 undef = undef := hL.1
        have e41 : a.tmps.getD 41 undef = undef := hL.2.1
        have e38 : a.tmps.getD 38 undef = .bool false := hL.2.2.1
        clear hL
        refine ⟨false, e38, ?_⟩
        rw [if_neg (by decide)]
        exact ⟨⟨fun d hd => by injection hd with hd; subst hd; rfl, fun h => by cases h⟩, trivial⟩
    · as_aux_lemma =>
        intro vals a W hS hL
        have e38 : a.tmps.getD 38 undef = .bool false := hL.1
        have e42 : a.tmps.getD 42 undef = undef := hL.2.1
        have e35 : a.tmps.getD 35 undef = .bool false := hL.2.2.1
        clear hL
        refine ⟨false, e35, ?_⟩
        rw [if_pos rfl]
        go_simp
        exact ⟨⟨fun d hd => by injection hd with hd; subst hd; rfl, fun h => by cases h⟩, hS, trivial⟩
    · as_aux_lemma =>
        intro vals a W hS hL
        have e35 : a.tmps.getD 35 undef = .bool false := hL.1
        have e43 : a.tmps.getD 43 undef = .bool false := hL.2.1
        clear hL
        go_simp
        exact ⟨⟨fun d hd => by injection hd with hd; subst hd; rfl, fun h => by cases h⟩, hS, trivial⟩
  · intro a W' vals hd hsz hT hF hv hP hS
    obtain rfl : vals = [] := List.eq_nil_of_length_eq_zero hv
    have hS2 : SX w 1 ([] : List Stp) [] ([(w3.heap.size, 34, #[.int .i64 0, .int .i64 0]), (w2.heap.size, 25, #[.int .i64 0, .int .i64 0]), (w.heap.size, 25, #[.int .i64 e0, .int .i64 f0])] : List (Nat × TypeId × Array Value)) W' := hS
    clear hS
    have hB0 := hS2
    have hB : SB w 1 ([(w3.heap.size, 34, #[.int .i64 0, .int .i64 0]), (w2.heap.size, 25, #[.int .i64 0, .int .i64 0]), (w.heap.size, 25, #[.int .i64 e0, .int .i64 f0])] : List (Nat × TypeId × Array Value)) W' := hB0
    clear hB0
    have e1 : a.tmps.getD 1 undef = .string s := hT 1 (by simp)
    have e2 : a.tmps.getD 2 undef = .pointer (some ⟨w.heap.size, 0, none⟩) := hT 2 (by simp)
    have e44 : a.tmps.getD 44 undef = .bool false := hT 44 (by simp)
    clear hT hF hP
    rw [act_lit 69 a hd hsz]
    simp only [List.range, List.range.loop, List.map, e1, e2, e44]
    clear hd hsz e1 e2 e44
    have HB4 := Lib.hid hB
    clear HB hB HOR
    have HB := HB4
    clear HB4
    have kc := HB.out.box (i := 2) rfl
    have cc0 := kc.cell 0
    have cc1 := kc.cell 1
    clear kc
    go_wp2_with fail
    refine (HG.out _).mono ?_
    rintro e w5 ⟨rfl, hb⟩
    have hB := HB.out.call hb
    clear hb HB
    have HB := Lib.hid hB
    clear hB
    clear cc0 cc1 HG
    have hbel := HB.out.bel
    go_wp2
    go_ret
    exact ⟨rfl, hbel⟩

theorem p_cases (o : Option (Nat × Nat)) : (∃ r c : Nat, o = some (r, c) ∧ r ≠ 0 ∧ ¬ (65536 < r ∨ 256 < c)) ∨ (pR o = 0 ∧ pC o = 0 ∧ (pE o = 2 ∨ pE o = 12)) := by
  cases o with
  | none => exact .inr ⟨rfl, rfl, .inl rfl⟩
  | some x =>
    obtain ⟨r, c⟩ := x
    by_cases h0 : r = 0
    · subst h0
      exact .inr ⟨rfl, rfl, .inl rfl⟩
    · by_cases h : 65536 < r ∨ 256 < c
      · obtain ⟨a, b, d⟩ := pv_far h0 h
        exact .inr ⟨a, b, .inr d⟩
      · exact .inl ⟨r, c, rfl, h0, h⟩
theorem refWords_any {w : World} (HV : Tens w) (e0 f0 : Int) (s : ByteArray) :
    Calls Tryd.prog 5 #[.agg #[.int .i64 e0, .int .i64 f0], .string s] w fun e w' => e = .returned (.bool true) ∧ Below w.heap.size w w' := by
  by_cases hlen : 100 < s.size
  · exact words_long HV s hlen e0 f0
  · have HP : Hid (∀ W : World, Calls Tryd.prog 27 #[.string s] W fun e w' => e = .returned (.tuple #[.agg #[.int .i64 (pR (mach (0, 0) s.data.toList)), .int .i64 (pC (mach (0, 0) s.data.toList))], .int .i64 (pE (mach (0, 0) s.data.toList))]) ∧ Below W.heap.size W w') := Lib.hid (fun W => parse_any s (by omega))
    have HQ : Hid (∀ W : World, Calls Tryd.prog 28 #[.string s] W fun e w' => e = .returned (.tuple #[.agg #[.int .i64 (pR (mach (0, 0) s.data.toList)), .int .i64 (pC (mach (0, 0) s.data.toList))], .int .i64 (pE (mach (0, 0) s.data.toList))]) ∧ Below W.heap.size W w') := Lib.hid (fun W => bParse_any s (by omega))
    rcases p_cases (mach (0, 0) s.data.toList) with ⟨r, c, hm, hr, hf⟩ | ⟨h1, h2, h3⟩
    · obtain ⟨v1, v2, v3⟩ := pv_ok hr hf
      rw [hm, v1, v2, v3] at HP HQ
      have hc := mach_pos _ r c hm hr
      have hw := mach_words _ r c hm hr hc (by omega) (by omega)
      have HT : Hid (∀ W : World, Below w.heap.size w W → Calls Tryd.prog 29 #[.agg #[.int .i64 ((r : Int) - 1), .int .i64 ((c : Int) - 1)]] W fun e w' => e = .returned (.string s) ∧ Below W.heap.size W w') := Lib.hid (fun W hb => by
        have := text_any (HV.below hb) (r - 1) (c - 1) (by omega) (by omega)
        unfold sL at this
        rw [← hw, show ((r - 1 : Nat) : Int) = (r : Int) - 1 by omega, show ((c - 1 : Nat) : Int) = (c : Int) - 1 by omega] at this
        simpa using this)
      cases hg : gdB e0 f0
      · exact words_0_false HV s hlen HP HQ HT e0 f0 hg
      · obtain ⟨p0, p1, p2, p3⟩ := gdB_iff.1 hg
        obtain ⟨e0, rfl⟩ : ∃ n : Nat, e0 = (n : Int) := ⟨e0.toNat, by omega⟩
        obtain ⟨f0, rfl⟩ : ∃ n : Nat, f0 = (n : Int) := ⟨f0.toNat, by omega⟩
        exact words_0_true HV s hlen HP HQ HT e0 f0 (by omega) (by omega)
    · rw [h1, h2] at HP HQ
      rcases h3 with h3 | h3 <;> rw [h3] at HP HQ <;> cases hg : gdB e0 f0
      · exact words_2_false HV s hlen HP HQ e0 f0 hg
      · obtain ⟨p0, p1, p2, p3⟩ := gdB_iff.1 hg
        obtain ⟨e0, rfl⟩ : ∃ n : Nat, e0 = (n : Int) := ⟨e0.toNat, by omega⟩
        obtain ⟨f0, rfl⟩ : ∃ n : Nat, f0 = (n : Int) := ⟨f0.toNat, by omega⟩
        exact words_2_true HV s hlen HP HQ e0 f0 (by omega) (by omega)
      · exact words_12_false HV s hlen HP HQ e0 f0 hg
      · obtain ⟨p0, p1, p2, p3⟩ := gdB_iff.1 hg
        obtain ⟨e0, rfl⟩ : ∃ n : Nat, e0 = (n : Int) := ⟨e0.toNat, by omega⟩
        obtain ⟨f0, rfl⟩ : ∃ n : Nat, f0 = (n : Int) := ⟨f0.toNat, by omega⟩
        exact words_12_true HV s hlen HP HQ e0 f0 (by omega) (by omega)
end Go.Proofs.YtgjijjdpkmdcgaaDoor
