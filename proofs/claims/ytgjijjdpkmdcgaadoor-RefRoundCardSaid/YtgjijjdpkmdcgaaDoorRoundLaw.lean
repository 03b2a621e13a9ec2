/- cashbooklaw8.RefRound by its contract: it returns true. Condition: strconv.Itoa keeps its contract. -/
import Derived.Test.YtgjijjdpkmdcgaaDoorKnown8
namespace Go.Proofs.YtgjijjdpkmdcgaaDoor
open Go.RowKit

set_option maxRecDepth 20000 in
set_option maxHeartbeats 2000000 in
theorem round_true_true {w : World} (HV : Tens w) (r c b d m k : Int) (m0 : 0 ≤ m) (m1 : m ≤ 65535) (k0 : 0 ≤ k) (k1 : k ≤ 255) :
    Calls Tryd.prog 6 #[.agg #[.int .i64 r, .int .i64 c, .bool true, .bool true], .agg #[.int .i64 b, .int .i64 d], .int .u16 m, .int .u8 k] w fun e w' => e = .returned (.bool true) ∧ Below w.heap.size w w' := by
  have HK : Hid (∀ W : World, Below w.heap.size w W → Calls Tryd.prog 9 #[] W fun e w' => e = .returned (.bool true) ∧ Below W.heap.size W w') := Lib.hid (fun W hb => known8_any (HV.below hb))
  have H1 : Hid (∀ W : World, Calls Tryd.prog 13 #[.agg #[.int .i64 b, .int .i64 d]] W fun e w' => e = .returned (.bool (gdB b d)) ∧ Below W.heap.size W w') := Lib.hid (fun W => good_any b d)
  have H2 : Hid (∀ W : World, Calls Tryd.prog 10 #[.agg #[.int .i64 r, .int .i64 c, .bool true, .bool true]] W fun e w' => e = .returned (.int .i64 (ckI r c)) ∧ Below W.heap.size W w') := Lib.hid (fun W => check_any r c true true)
  have HB : Hid (SB w 2 ([(w.heap.size + 1, 25, #[.int .i64 b, .int .i64 d]), (w.heap.size, 23, #[.int .i64 r, .int .i64 c, .bool true, .bool true])] : List (Nat × TypeId × Array Value)) ((w.alloc (.cells #[.int .i64 r, .int .i64 c, .bool true, .bool true] 23)).alloc (.cells #[.int .i64 b, .int .i64 d] 25))) := Lib.hid ((sb1 w 23 #[.int .i64 r, .int .i64 c, .bool true, .bool true]).push (by simp) 25 #[.int .i64 b, .int .i64 d])
  clear HV
  cases hgb : gdB b d
  · rw [hgb] at H1
    clear hgb
    go_enter Tryd.func6, Tryd.ntmps6
    go_wp2_with fail
    refine (HK.out _ HB.out.bel).mono ?_
    rintro e w1 ⟨rfl, hb⟩
    have hB := HB.out.call hb
    clear hb HB
    have HB := Lib.hid hB
    clear hB
    have kb := HB.out.box (i := 0) rfl
    have cb0 := kb.cell 0
    have cb1 := kb.cell 1
    clear kb
    go_wp2_with fail
    refine (H1.out _).mono ?_
    rintro e w2 ⟨rfl, hb⟩
    have hB := HB.out.call hb
    clear hb HB
    have HB := Lib.hid hB
    clear hB
    clear cb0 cb1 HK H1 H2
    have hbel := HB.out.bel
    go_wp2
    go_ret
    exact ⟨rfl, hbel⟩
  · rw [hgb] at H1
    obtain ⟨b0, b1, d0, d1⟩ := gdB_iff.1 hgb
    clear hgb
    rcases ck_cases r c with ⟨-, hck⟩ | ⟨-, hck⟩
    · rw [hck] at H2
      clear hck
      obtain ⟨pb0, pb1⟩ := fo_bd r b true 65536 (by decide)
      obtain ⟨qb0, qb1⟩ := fo_bd c d true 256 (by decide)
      have H3 : Hid (∀ W : World, Calls Tryd.prog 16 #[.agg #[.int .i64 r, .int .i64 c, .bool true, .bool true], .agg #[.int .i64 b, .int .i64 d]] W fun e w' => e = .returned (.agg #[.int .i64 (fo r b true 65536), .int .i64 (fo c d true 256)]) ∧ Below W.heap.size W w') := Lib.hid (fun W => at_any r c b d true true)
      have H4 : Hid (∀ W : World, Calls Tryd.prog 16 #[.agg #[.int .i64 r, .int .i64 c, .bool true, .bool true], .agg #[.int .i64 ((b + m) % 65536), .int .i64 ((d + k) % 256)]] W fun e w' => e = .returned (.agg #[.int .i64 ((fo r b true 65536 + m) % 65536), .int .i64 ((fo c d true 256 + k) % 256)]) ∧ Below W.heap.size W w') := Lib.hid (fun W => by
        have := at_any (w := W) r c ((b + m) % 65536) ((d + k) % 256) true true
        rw [show fo r ((b + m) % 65536) true 65536 = (fo r b true 65536 + m) % 65536 from (fo_far_r r b m true b0 m0).trans (by simp)] at this
        rw [show fo c ((d + k) % 256) true 256 = (fo c d true 256 + k) % 256 from (fo_far_c c d k true d0 k0).trans (by simp)] at this
        exact this)
      generalize fo r b true 65536 = p at *
      generalize fo c d true 256 = q at *
      have H5 : Hid (∀ W : World, Calls Tryd.prog 13 #[.agg #[.int .i64 ((p + m) % 65536), .int .i64 ((q + k) % 256)]] W fun e w' => e = .returned (.bool true) ∧ Below W.heap.size W w') := Lib.hid (fun W => by
        have := good_any (w := W) ((p + m) % 65536) ((q + k) % 256)
        rw [show gdB ((p + m) % 65536) ((q + k) % 256) = true from gdB_iff.2 ⟨by omega, by omega, by omega, by omega⟩] at this
        exact this)
      go_enter Tryd.func6, Tryd.ntmps6
      go_wp2_with fail
      refine (HK.out _ HB.out.bel).mono ?_
      rintro e w1 ⟨rfl, hb⟩
      have hB := HB.out.call hb
      clear hb HB
      have HB := Lib.hid hB
      clear hB
      have kb := HB.out.box (i := 0) rfl
      have cb0 := kb.cell 0
      have cb1 := kb.cell 1
      clear kb
      go_wp2_with fail
      refine (H1.out _).mono ?_
      rintro e w2 ⟨rfl, hb⟩
      have hB := HB.out.call hb
      clear hb HB
      have HB := Lib.hid hB
      clear hB
      clear cb0 cb1
      have kr := HB.out.box (i := 1) rfl
      have cr0 := kr.cell 0
      have cr1 := kr.cell 1
      have cr2 := kr.cell 2
      have cr3 := kr.cell 3
      clear kr
      go_wp2_with fail
      refine (H2.out _).mono ?_
      rintro e w3 ⟨rfl, hb⟩
      have hB := HB.out.call hb
      clear hb HB
      have HB := Lib.hid hB
      clear hB
      clear cr0 cr1 cr2 cr3 HK H1 H2
      have kb := HB.out.box (i := 0) rfl
      have cb0 := kb.cell 0
      have cb1 := kb.cell 1
      clear kb
      have HB2 := Lib.hid (HB.out.alloc 25 #[.int .i64 ((b + m) % 65536), .int .i64 ((d + k) % 256)])
      go_wp2_with fail
      clear cb0 cb1 HB
      refine wp_region_parts (S := S22 w 2 ([(w3.heap.size, 25, #[.int .i64 ((b + m) % 65536), .int .i64 ((d + k) % 256)]), (w.heap.size + 1, 25, #[.int .i64 b, .int .i64 d]), (w.heap.size, 23, #[.int .i64 r, .int .i64 c, .bool true, .bool true])] : List (Nat × TypeId × Array Value)) 25 #[.int .i64 0, .int .i64 0] #[.int .i64 p, .int .i64 q] 25 #[.int .i64 0, .int .i64 0] #[.int .i64 ((p + m) % 65536), .int .i64 ((q + k) % 256)]) (E := fun _ _ => True) [6, 7, 8, 9] [(4, Is (.pointer (some ⟨w.heap.size, 0, none⟩))), (5, Is (.pointer (some ⟨w.heap.size + 1, 0, none⟩))), (9, Is (.pointer (some ⟨w3.heap.size, 0, none⟩))), (2, Is (.int .u16 m)), (3, Is (.int .u8 k))] [(37, Is (.agg #[.int .i64 r, .int .i64 c, .bool true, .bool true])), (38, Is (.agg #[.int .i64 b, .int .i64 d])), (39, Is (.agg #[.int .i64 p, .int .i64 q])), (40, Is (.agg #[.int .i64 r, .int .i64 c, .bool true, .bool true])), (41, Is (.agg #[.int .i64 ((b + m) % 65536), .int .i64 ((d + k) % 256)])), (42, Is (.agg #[.int .i64 ((p + m) % 65536), .int .i64 ((q + k) % 256)]))]
        [.op [4] none, .op [5] none, .op [37, 38] none, .op [4] none, .op [9] none, .op [40, 41] none, .phase 0 [] [] [], .phase 1 [] [] [], .phase 2 [39] [(0, 10)] [1], .phase 3 [42] [(1, 11)] [2, 0]] (by as_aux_lemma => kernel_rfl) ?_ ?_ ?_ ?_ ?_ ⟨stable_is _ _, stable_is _ _, stable_is _ _, stable_is _ _, stable_is _ _, stable_is _ _, stable_is _ _, stable_is _ _, stable_is _ _, stable_is _ _, stable_is _ _, trivial⟩ ?_ (HB2.out.drew) ?_ ?_
      · as_aux_lemma => kernel_rfl
      · as_aux_lemma => kernel_rfl
      · as_aux_lemma => kernel_rfl
      · as_aux_lemma => kernel_rfl
      · as_aux_lemma => kernel_rfl
      · exact ⟨rfl, rfl, rfl, rfl, rfl, trivial⟩
      · refine ⟨?_, ?_, ?_, ?_, ?_, ?_, ?_, ?_, ?_, ?_, trivial⟩
        · as_aux_lemma =>
            intro vals a W hS hL
            have e4 : a.tmps.getD 4 undef = .pointer (some ⟨w.heap.size, 0, none⟩) := hL.1
            clear hL
            have kb : Bk W (w.heap.size) 23 #[.int .i64 r, .int .i64 c, .bool true, .bool true] := hS.bk 2 rfl
            have f0 := kb.cell 0
            have f1 := kb.cell 1
            have f2 := kb.cell 2
            have f3 := kb.cell 3
            clear kb
            go_simp
            exact ⟨⟨fun d hd => by injection hd with hd; subst hd; rfl, fun h => by cases h⟩, hS, trivial⟩
        · as_aux_lemma =>
            intro vals a W hS hL
            have e5 : a.tmps.getD 5 undef = .pointer (some ⟨w.heap.size + 1, 0, none⟩) := hL.1
            clear hL
            have kb : Bk W (w.heap.size + 1) 25 #[.int .i64 b, .int .i64 d] := hS.bk 1 rfl
            have f0 := kb.cell 0
            have f1 := kb.cell 1
            clear kb
            go_simp
            exact ⟨⟨fun d hd => by injection hd with hd; subst hd; rfl, fun h => by cases h⟩, hS, trivial⟩
        · as_aux_lemma =>
            intro vals a W hS hL
            have e37 : a.tmps.getD 37 undef = .agg #[.int .i64 r, .int .i64 c, .bool true, .bool true] := hL.1
            have e38 : a.tmps.getD 38 undef = .agg #[.int .i64 b, .int .i64 d] := hL.2.1
            clear hL
            go_simp
            refine (H3.out W).mono ?_
            rintro e W' ⟨rfl, hb⟩
            exact ⟨_, rfl, ⟨fun d hd => by injection hd with hd; subst hd; rfl, fun h => by cases h⟩, hS.call hb, trivial⟩
        · as_aux_lemma =>
            intro vals a W hS hL
            have e4 : a.tmps.getD 4 undef = .pointer (some ⟨w.heap.size, 0, none⟩) := hL.1
            clear hL
            have kb : Bk W (w.heap.size) 23 #[.int .i64 r, .int .i64 c, .bool true, .bool true] := hS.bk 2 rfl
            have f0 := kb.cell 0
            have f1 := kb.cell 1
            have f2 := kb.cell 2
            have f3 := kb.cell 3
            clear kb
            go_simp
            exact ⟨⟨fun d hd => by injection hd with hd; subst hd; rfl, fun h => by cases h⟩, hS, trivial⟩
        · as_aux_lemma =>
            intro vals a W hS hL
            have e9 : a.tmps.getD 9 undef = .pointer (some ⟨w3.heap.size, 0, none⟩) := hL.1
            clear hL
            have kb : Bk W (w3.heap.size) 25 #[.int .i64 ((b + m) % 65536), .int .i64 ((d + k) % 256)] := hS.bk 0 rfl
            have f0 := kb.cell 0
            have f1 := kb.cell 1
            clear kb
            go_simp
            exact ⟨⟨fun d hd => by injection hd with hd; subst hd; rfl, fun h => by cases h⟩, hS, trivial⟩
        · as_aux_lemma =>
            intro vals a W hS hL
            have e40 : a.tmps.getD 40 undef = .agg #[.int .i64 r, .int .i64 c, .bool true, .bool true] := hL.1
            have e41 : a.tmps.getD 41 undef = .agg #[.int .i64 ((b + m) % 65536), .int .i64 ((d + k) % 256)] := hL.2.1
            clear hL
            go_simp
            refine (H4.out W).mono ?_
            rintro e W' ⟨rfl, hb⟩
            exact ⟨_, rfl, ⟨fun d hd => by injection hd with hd; subst hd; rfl, fun h => by cases h⟩, hS.call hb, trivial⟩
        · as_aux_lemma =>
            intro a W vals hv hn hS hL hp hd
            clear hL
            go_simp
            exact ⟨hS.new0 hv hn, trivial, trivial⟩
        · as_aux_lemma =>
            intro a W vals hv hn hS hL hp hd
            clear hL
            go_simp
            exact ⟨hS.new1 hv hn, trivial, trivial⟩
        · as_aux_lemma =>
            intro a W vals hv hn hS hL hp hd
            have e39 : a.tmps.getD 39 undef = .agg #[.int .i64 p, .int .i64 q] := hL.1
            clear hL
            obtain ⟨g, hg, kz, hnx⟩ := hS.at2 hv hn hp.1 hd.1
            rw [Array.getD_eq_getD_getElem?] at hg e39
            have z0 := kz.frozen 0
            have z1 := kz.frozen 1
            have q0 := kz.cell 0
            have q1 := kz.cell 1
            clear kz hS
            go_simp
            exact ⟨hnx _, trivial, trivial⟩
        · as_aux_lemma =>
            intro a W vals hv hn hS hL hp hd
            have e42 : a.tmps.getD 42 undef = .agg #[.int .i64 ((p + m) % 65536), .int .i64 ((q + k) % 256)] := hL.1
            clear hL
            obtain ⟨g, hg, kz, hnx⟩ := hS.at3 hv hn hp.1 hd.1 hd.2.1
            rw [Array.getD_eq_getD_getElem?] at hg e42
            have z0 := kz.frozen 0
            have z1 := kz.frozen 1
            have q0 := kz.cell 0
            have q1 := kz.cell 1
            clear kz hS
            go_simp
            exact ⟨hnx _, trivial, trivial⟩
      · intro a W' vals hd hsz hT hF hv hall hP hS
        obtain ⟨g0, g1, hv0, hv1, hg0, hg1, hg01, hn0, hn1, hB⟩ := hS.fin hv hall
        simp only [List.mem_cons, List.not_mem_nil, or_false, forall_eq_or_imp, forall_eq] at hn0
        have e10 : a.tmps.getD 10 undef = .pointer (some ⟨g0, 0, none⟩) := (hP 0 6 _ 10 _ rfl rfl rfl hv0).symm
        simp only [List.mem_cons, List.not_mem_nil, or_false, forall_eq_or_imp, forall_eq] at hn1
        have e11 : a.tmps.getD 11 undef = .pointer (some ⟨g1, 0, none⟩) := (hP 1 7 _ 11 _ rfl rfl rfl hv1).symm
        have e2 : a.tmps.getD 2 undef = .int .u16 m := hT 2 (by simp)
        have e3 : a.tmps.getD 3 undef = .int .u8 k := hT 3 (by simp)
        have e4 : a.tmps.getD 4 undef = .pointer (some ⟨w.heap.size, 0, none⟩) := hT 4 (by simp)
        have e5 : a.tmps.getD 5 undef = .pointer (some ⟨w.heap.size + 1, 0, none⟩) := hT 5 (by simp)
        have e9 : a.tmps.getD 9 undef = .pointer (some ⟨w3.heap.size, 0, none⟩) := hT 9 (by simp)
        clear hT hF hP hS hall hv0 hv1
        rw [act_lit 70 a hd hsz]
        simp only [List.range, List.range.loop, List.map, e2, e3, e4, e5, e9, e10, e11]
        clear hd hsz e2 e3 e4 e5 e9 e10 e11
        have HB3 := Lib.hid hB
        clear HB2 hB H3 H4
        go_wp2_with fail
        refine wp_region_phases (S := (fun vals W => SX w 2 ([] : List Stp) vals ([(g1, 25, #[.int .i64 ((p + m) % 65536), .int .i64 ((q + k) % 256)]), (g0, 25, #[.int .i64 p, .int .i64 q]), (w3.heap.size, 25, #[.int .i64 ((b + m) % 65536), .int .i64 ((d + k) % 256)]), (w.heap.size + 1, 25, #[.int .i64 b, .int .i64 d]), (w.heap.size, 23, #[.int .i64 r, .int .i64 c, .bool true, .bool true])] : List (Nat × TypeId × Array Value)) W)) (E := (fun _ _ => True)) [] [(2, Is (.int .u16 m)), (3, Is (.int .u8 k)), (4, Is (.pointer (some ⟨w.heap.size, 0, none⟩))), (5, Is (.pointer (some ⟨w.heap.size + 1, 0, none⟩))), (9, Is (.pointer (some ⟨w3.heap.size, 0, none⟩))), (10, Is (.pointer (some ⟨g0, 0, none⟩))), (11, Is (.pointer (some ⟨g1, 0, none⟩)))] [(43, Is (.pointer (some ⟨g0, 0, none⟩))), (44, Is (.int .i64 p)), (45, Is (.pointer (some ⟨g0, 1, none⟩))), (46, Is (.int .i64 q)), (12, Is (.int .i64 p)), (13, Is (.int .i64 q))]
          [.op [10] none, .op [43] none, .op [10] none, .op [45] none, .op [44] none, .op [46] none] (by as_aux_lemma => kernel_rfl) ?_ ?_ ?_ ?_ ?_ ⟨stable_is _ _, stable_is _ _, stable_is _ _, stable_is _ _, stable_is _ _, stable_is _ _, stable_is _ _, stable_is _ _, stable_is _ _, stable_is _ _, stable_is _ _, stable_is _ _, stable_is _ _, trivial⟩ ?_ (HB3.out.drew) ?_ ?_
        · as_aux_lemma => kernel_rfl
        · as_aux_lemma => kernel_rfl
        · as_aux_lemma => kernel_rfl
        · as_aux_lemma => kernel_rfl
        · as_aux_lemma => kernel_rfl
        · exact ⟨rfl, rfl, rfl, rfl, rfl, rfl, rfl, trivial⟩
        · refine ⟨?_, ?_, ?_, ?_, ?_, ?_, trivial⟩
          · as_aux_lemma =>
              intro vals a W hS hL
              have e10 : a.tmps.getD 10 undef = .pointer (some ⟨g0, 0, none⟩) := hL.1
              clear hL
              go_simp
              exact ⟨⟨fun d hd => by injection hd with hd; subst hd; rfl, fun h => by cases h⟩, hS, trivial⟩
          · as_aux_lemma =>
              intro vals a W hS hL
              have e43 : a.tmps.getD 43 undef = .pointer (some ⟨g0, 0, none⟩) := hL.1
              clear hL
              have kb : Bk W (g0) 25 #[.int .i64 p, .int .i64 q] := hS.bk 1 rfl rfl
              have f0 := kb.cell 0
              clear kb
              go_simp
              exact ⟨⟨fun d hd => by injection hd with hd; subst hd; rfl, fun h => by cases h⟩, hS, trivial⟩
          · as_aux_lemma =>
              intro vals a W hS hL
              have e10 : a.tmps.getD 10 undef = .pointer (some ⟨g0, 0, none⟩) := hL.1
              clear hL
              go_simp
              exact ⟨⟨fun d hd => by injection hd with hd; subst hd; rfl, fun h => by cases h⟩, hS, trivial⟩
          · as_aux_lemma =>
              intro vals a W hS hL
              have e45 : a.tmps.getD 45 undef = .pointer (some ⟨g0, 1, none⟩) := hL.1
              clear hL
              have kb : Bk W (g0) 25 #[.int .i64 p, .int .i64 q] := hS.bk 1 rfl rfl
              have f1 := kb.cell 1
              clear kb
              go_simp
              exact ⟨⟨fun d hd => by injection hd with hd; subst hd; rfl, fun h => by cases h⟩, hS, trivial⟩
          · as_aux_lemma =>
              intro vals a W hS hL
              have e44 : a.tmps.getD 44 undef = .int .i64 p := hL.1
              clear hL
              go_simp
              exact ⟨⟨fun d hd => by injection hd with hd; subst hd; rfl, fun h => by cases h⟩, hS, trivial⟩
          · as_aux_lemma =>
              intro vals a W hS hL
              have e46 : a.tmps.getD 46 undef = .int .i64 q := hL.1
              clear hL
              go_simp
              exact ⟨⟨fun d hd => by injection hd with hd; subst hd; rfl, fun h => by cases h⟩, hS, trivial⟩
        · intro a W' vals hd hsz hT hF hv hP hS
          obtain rfl : vals = [] := List.eq_nil_of_length_eq_zero hv
          have hS2 : SX w 2 ([] : List Stp) [] ([(g1, 25, #[.int .i64 ((p + m) % 65536), .int .i64 ((q + k) % 256)]), (g0, 25, #[.int .i64 p, .int .i64 q]), (w3.heap.size, 25, #[.int .i64 ((b + m) % 65536), .int .i64 ((d + k) % 256)]), (w.heap.size + 1, 25, #[.int .i64 b, .int .i64 d]), (w.heap.size, 23, #[.int .i64 r, .int .i64 c, .bool true, .bool true])] : List (Nat × TypeId × Array Value)) W' := hS
          clear hS
          have hB0 := hS2
          have hB : SB w 2 ([(g1, 25, #[.int .i64 ((p + m) % 65536), .int .i64 ((q + k) % 256)]), (g0, 25, #[.int .i64 p, .int .i64 q]), (w3.heap.size, 25, #[.int .i64 ((b + m) % 65536), .int .i64 ((d + k) % 256)]), (w.heap.size + 1, 25, #[.int .i64 b, .int .i64 d]), (w.heap.size, 23, #[.int .i64 r, .int .i64 c, .bool true, .bool true])] : List (Nat × TypeId × Array Value)) W' := hB0
          clear hB0
          have e2 : a.tmps.getD 2 undef = .int .u16 m := hT 2 (by simp)
          have e3 : a.tmps.getD 3 undef = .int .u8 k := hT 3 (by simp)
          have e4 : a.tmps.getD 4 undef = .pointer (some ⟨w.heap.size, 0, none⟩) := hT 4 (by simp)
          have e5 : a.tmps.getD 5 undef = .pointer (some ⟨w.heap.size + 1, 0, none⟩) := hT 5 (by simp)
          have e9 : a.tmps.getD 9 undef = .pointer (some ⟨w3.heap.size, 0, none⟩) := hT 9 (by simp)
          have e10 : a.tmps.getD 10 undef = .pointer (some ⟨g0, 0, none⟩) := hT 10 (by simp)
          have e11 : a.tmps.getD 11 undef = .pointer (some ⟨g1, 0, none⟩) := hT 11 (by simp)
          have e12 : a.tmps.getD 12 undef = .int .i64 p := hT 12 (by simp)
          have e13 : a.tmps.getD 13 undef = .int .i64 q := hT 13 (by simp)
          clear hT hF hP
          rw [act_lit 70 a hd hsz]
          simp only [List.range, List.range.loop, List.map, e2, e3, e4, e5, e9, e10, e11, e12, e13]
          clear hd hsz e2 e3 e4 e5 e9 e10 e11 e12 e13
          have HB4 := Lib.hid hB
          clear HB3 hB
          have kr := HB4.out.box (i := 4) rfl
          have cr0 := kr.cell 0
          have cr1 := kr.cell 1
          have cr2 := kr.cell 2
          have cr3 := kr.cell 3
          clear kr
          have ky := HB4.out.box (i := 0) rfl
          have cy0 := ky.cell 0
          have cy1 := ky.cell 1
          clear ky
          go_wp2_with fail
          refine (H5.out _).mono ?_
          rintro e w5 ⟨rfl, hb⟩
          have hbel := (HB4.out.call hb).bel
          clear hb HB4 H5 cr0 cr1 cr2 cr3 cy0 cy1
          go_wp2
          go_ret
          exact ⟨rfl, hbel⟩
    · rw [hck] at H2
      clear hck
      go_enter Tryd.func6, Tryd.ntmps6
      go_wp2_with fail
      refine (HK.out _ HB.out.bel).mono ?_
      rintro e w1 ⟨rfl, hb⟩
      have hB := HB.out.call hb
      clear hb HB
      have HB := Lib.hid hB
      clear hB
      have kb := HB.out.box (i := 0) rfl
      have cb0 := kb.cell 0
      have cb1 := kb.cell 1
      clear kb
      go_wp2_with fail
      refine (H1.out _).mono ?_
      rintro e w2 ⟨rfl, hb⟩
      have hB := HB.out.call hb
      clear hb HB
      have HB := Lib.hid hB
      clear hB
      clear cb0 cb1
      have kr := HB.out.box (i := 1) rfl
      have cr0 := kr.cell 0
      have cr1 := kr.cell 1
      have cr2 := kr.cell 2
      have cr3 := kr.cell 3
      clear kr
      go_wp2_with fail
      refine (H2.out _).mono ?_
      rintro e w3 ⟨rfl, hb⟩
      have hB := HB.out.call hb
      clear hb HB
      have HB := Lib.hid hB
      clear hB
      clear cr0 cr1 cr2 cr3 HK H1 H2
      have hbel := HB.out.bel
      go_wp2
      go_ret
      exact ⟨rfl, hbel⟩

set_option maxRecDepth 20000 in
set_option maxHeartbeats 2000000 in
theorem round_true_false {w : World} (HV : Tens w) (r c b d m k : Int) (m0 : 0 ≤ m) (m1 : m ≤ 65535) (k0 : 0 ≤ k) (k1 : k ≤ 255) :
    Calls Tryd.prog 6 #[.agg #[.int .i64 r, .int .i64 c, .bool true, .bool false], .agg #[.int .i64 b, .int .i64 d], .int .u16 m, .int .u8 k] w fun e w' => e = .returned (.bool true) ∧ Below w.heap.size w w' := by
  have HK : Hid (∀ W : World, Below w.heap.size w W → Calls Tryd.prog 9 #[] W fun e w' => e = .returned (.bool true) ∧ Below W.heap.size W w') := Lib.hid (fun W hb => known8_any (HV.below hb))
  have H1 : Hid (∀ W : World, Calls Tryd.prog 13 #[.agg #[.int .i64 b, .int .i64 d]] W fun e w' => e = .returned (.bool (gdB b d)) ∧ Below W.heap.size W w') := Lib.hid (fun W => good_any b d)
  have H2 : Hid (∀ W : World, Calls Tryd.prog 10 #[.agg #[.int .i64 r, .int .i64 c, .bool true, .bool false]] W fun e w' => e = .returned (.int .i64 (ckI r c)) ∧ Below W.heap.size W w') := Lib.hid (fun W => check_any r c true false)
  have HB : Hid (SB w 2 ([(w.heap.size + 1, 25, #[.int .i64 b, .int .i64 d]), (w.heap.size, 23, #[.int .i64 r, .int .i64 c, .bool true, .bool false])] : List (Nat × TypeId × Array Value)) ((w.alloc (.cells #[.int .i64 r, .int .i64 c, .bool true, .bool false] 23)).alloc (.cells #[.int .i64 b, .int .i64 d] 25))) := Lib.hid ((sb1 w 23 #[.int .i64 r, .int .i64 c, .bool true, .bool false]).push (by simp) 25 #[.int .i64 b, .int .i64 d])
  clear HV
  cases hgb : gdB b d
  · rw [hgb] at H1
    clear hgb
    go_enter Tryd.func6, Tryd.ntmps6
    go_wp2_with fail
    refine (HK.out _ HB.out.bel).mono ?_
    rintro e w1 ⟨rfl, hb⟩
    have hB := HB.out.call hb
    clear hb HB
    have HB := Lib.hid hB
    clear hB
    have kb := HB.out.box (i := 0) rfl
    have cb0 := kb.cell 0
    have cb1 := kb.cell 1
    clear kb
    go_wp2_with fail
    refine (H1.out _).mono ?_
    rintro e w2 ⟨rfl, hb⟩
    have hB := HB.out.call hb
    clear hb HB
    have HB := Lib.hid hB
    clear hB
    clear cb0 cb1 HK H1 H2
    have hbel := HB.out.bel
    go_wp2
    go_ret
    exact ⟨rfl, hbel⟩
  · rw [hgb] at H1
    obtain ⟨b0, b1, d0, d1⟩ := gdB_iff.1 hgb
    clear hgb
    rcases ck_cases r c with ⟨-, hck⟩ | ⟨-, hck⟩
    · rw [hck] at H2
      clear hck
      obtain ⟨pb0, pb1⟩ := fo_bd r b true 65536 (by decide)
      obtain ⟨qb0, qb1⟩ := fo_bd c d false 256 (by decide)
      have H3 : Hid (∀ W : World, Calls Tryd.prog 16 #[.agg #[.int .i64 r, .int .i64 c, .bool true, .bool false], .agg #[.int .i64 b, .int .i64 d]] W fun e w' => e = .returned (.agg #[.int .i64 (fo r b true 65536), .int .i64 (fo c d false 256)]) ∧ Below W.heap.size W w') := Lib.hid (fun W => at_any r c b d true false)
      have H4 : Hid (∀ W : World, Calls Tryd.prog 16 #[.agg #[.int .i64 r, .int .i64 c, .bool true, .bool false], .agg #[.int .i64 ((b + m) % 65536), .int .i64 ((d + k) % 256)]] W fun e w' => e = .returned (.agg #[.int .i64 ((fo r b true 65536 + m) % 65536), .int .i64 (fo c d false 256)]) ∧ Below W.heap.size W w') := Lib.hid (fun W => by
        have := at_any (w := W) r c ((b + m) % 65536) ((d + k) % 256) true false
        rw [show fo r ((b + m) % 65536) true 65536 = (fo r b true 65536 + m) % 65536 from (fo_far_r r b m true b0 m0).trans (by simp)] at this
        rw [show fo c ((d + k) % 256) false 256 = fo c d false 256 from (fo_far_c c d k false d0 k0).trans (by simp)] at this
        exact this)
      generalize fo r b true 65536 = p at *
      generalize fo c d false 256 = q at *
      have H5 : Hid (∀ W : World, Calls Tryd.prog 13 #[.agg #[.int .i64 ((p + m) % 65536), .int .i64 q]] W fun e w' => e = .returned (.bool true) ∧ Below W.heap.size W w') := Lib.hid (fun W => by
        have := good_any (w := W) ((p + m) % 65536) (q)
        rw [show gdB ((p + m) % 65536) (q) = true from gdB_iff.2 ⟨by omega, by omega, by omega, by omega⟩] at this
        exact this)
      go_enter Tryd.func6, Tryd.ntmps6
      go_wp2_with fail
      refine (HK.out _ HB.out.bel).mono ?_
      rintro e w1 ⟨rfl, hb⟩
      have hB := HB.out.call hb
      clear hb HB
      have HB := Lib.hid hB
      clear hB
      have kb := HB.out.box (i := 0) rfl
      have cb0 := kb.cell 0
      have cb1 := kb.cell 1
      clear kb
      go_wp2_with fail
      refine (H1.out _).mono ?_
      rintro e w2 ⟨rfl, hb⟩
      have hB := HB.out.call hb
      clear hb HB
      have HB := Lib.hid hB
      clear hB
      clear cb0 cb1
      have kr := HB.out.box (i := 1) rfl
      have cr0 := kr.cell 0
      have cr1 := kr.cell 1
      have cr2 := kr.cell 2
      have cr3 := kr.cell 3
      clear kr
      go_wp2_with fail
      refine (H2.out _).mono ?_
      rintro e w3 ⟨rfl, hb⟩
      have hB := HB.out.call hb
      clear hb HB
      have HB := Lib.hid hB
      clear hB
      clear cr0 cr1 cr2 cr3 HK H1 H2
      have kb := HB.out.box (i := 0) rfl
      have cb0 := kb.cell 0
      have cb1 := kb.cell 1
      clear kb
      have HB2 := Lib.hid (HB.out.alloc 25 #[.int .i64 ((b + m) % 65536), .int .i64 ((d + k) % 256)])
      go_wp2_with fail
      clear cb0 cb1 HB
      refine wp_region_parts (S := S22 w 2 ([(w3.heap.size, 25, #[.int .i64 ((b + m) % 65536), .int .i64 ((d + k) % 256)]), (w.heap.size + 1, 25, #[.int .i64 b, .int .i64 d]), (w.heap.size, 23, #[.int .i64 r, .int .i64 c, .bool true, .bool false])] : List (Nat × TypeId × Array Value)) 25 #[.int .i64 0, .int .i64 0] #[.int .i64 p, .int .i64 q] 25 #[.int .i64 0, .int .i64 0] #[.int .i64 ((p + m) % 65536), .int .i64 q]) (E := fun _ _ => True) [6, 7, 8, 9] [(4, Is (.pointer (some ⟨w.heap.size, 0, none⟩))), (5, Is (.pointer (some ⟨w.heap.size + 1, 0, none⟩))), (9, Is (.pointer (some ⟨w3.heap.size, 0, none⟩))), (2, Is (.int .u16 m)), (3, Is (.int .u8 k))] [(37, Is (.agg #[.int .i64 r, .int .i64 c, .bool true, .bool false])), (38, Is (.agg #[.int .i64 b, .int .i64 d])), (39, Is (.agg #[.int .i64 p, .int .i64 q])), (40, Is (.agg #[.int .i64 r, .int .i64 c, .bool true, .bool false])), (41, Is (.agg #[.int .i64 ((b + m) % 65536), .int .i64 ((d + k) % 256)])), (42, Is (.agg #[.int .i64 ((p + m) % 65536), .int .i64 q]))]
        [.op [4] none, .op [5] none, .op [37, 38] none, .op [4] none, .op [9] none, .op [40, 41] none, .phase 0 [] [] [], .phase 1 [] [] [], .phase 2 [39] [(0, 10)] [1], .phase 3 [42] [(1, 11)] [2, 0]] (by as_aux_lemma => kernel_rfl) ?_ ?_ ?_ ?_ ?_ ⟨stable_is _ _, stable_is _ _, stable_is _ _, stable_is _ _, stable_is _ _, stable_is _ _, stable_is _ _, stable_is _ _, stable_is _ _, stable_is _ _, stable_is _ _, trivial⟩ ?_ (HB2.out.drew) ?_ ?_
      · as_aux_lemma => kernel_rfl
      · as_aux_lemma => kernel_rfl
      · as_aux_lemma => kernel_rfl
      · as_aux_lemma => kernel_rfl
      · as_aux_lemma => kernel_rfl
      · exact ⟨rfl, rfl, rfl, rfl, rfl, trivial⟩
      · refine ⟨?_, ?_, ?_, ?_, ?_, ?_, ?_, ?_, ?_, ?_, trivial⟩
        · as_aux_lemma =>
            intro vals a W hS hL
            have e4 : a.tmps.getD 4 undef = .pointer (some ⟨w.heap.size, 0, none⟩) := hL.1
            clear hL
            have kb : Bk W (w.heap.size) 23 #[.int .i64 r, .int .i64 c, .bool true, .bool false] := hS.bk 2 rfl
            have f0 := kb.cell 0
            have f1 := kb.cell 1
            have f2 := kb.cell 2
            have f3 := kb.cell 3
            clear kb
            go_simp
            exact ⟨⟨fun d hd => by injection hd with hd; subst hd; rfl, fun h => by cases h⟩, hS, trivial⟩
        · as_aux_lemma =>
            intro vals a W hS hL
            have e5 : a.tmps.getD 5 undef = .pointer (some ⟨w.heap.size + 1, 0, none⟩) := hL.1
            clear hL
            have kb : Bk W (w.heap.size + 1) 25 #[.int .i64 b, .int .i64 d] := hS.bk 1 rfl
            have f0 := kb.cell 0
            have f1 := kb.cell 1
            clear kb
            go_simp
            exact ⟨⟨fun d hd => by injection hd with hd; subst hd; rfl, fun h => by cases h⟩, hS, trivial⟩
        · as_aux_lemma =>
            intro vals a W hS hL
            have e37 : a.tmps.getD 37 undef = .agg #[.int .i64 r, .int .i64 c, .bool true, .bool false] := hL.1
            have e38 : a.tmps.getD 38 undef = .agg #[.int .i64 b, .int .i64 d] := hL.2.1
            clear hL
            go_simp
            refine (H3.out W).mono ?_
            rintro e W' ⟨rfl, hb⟩
            exact ⟨_, rfl, ⟨fun d hd => by injection hd with hd; subst hd; rfl, fun h => by cases h⟩, hS.call hb, trivial⟩
        · as_aux_lemma =>
            intro vals a W hS hL
            have e4 : a.tmps.getD 4 undef = .pointer (some ⟨w.heap.size, 0, none⟩) := hL.1
            clear hL
            have kb : Bk W (w.heap.size) 23 #[.int .i64 r, .int .i64 c, .bool true, .bool false] := hS.bk 2 rfl
            have f0 := kb.cell 0
            have f1 := kb.cell 1
            have f2 := kb.cell 2
            have f3 := kb.cell 3
            clear kb
            go_simp
            exact ⟨⟨fun d hd => by injection hd with hd; subst hd; rfl, fun h => by cases h⟩, hS, trivial⟩
        · as_aux_lemma =>
            intro vals a W hS hL
            have e9 : a.tmps.getD 9 undef = .pointer (some ⟨w3.heap.size, 0, none⟩) := hL.1
            clear hL
            have kb : Bk W (w3.heap.size) 25 #[.int .i64 ((b + m) % 65536), .int .i64 ((d + k) % 256)] := hS.bk 0 rfl
            have f0 := kb.cell 0
            have f1 := kb.cell 1
            clear kb
            go_simp
            exact ⟨⟨fun d hd => by injection hd with hd; subst hd; rfl, fun h => by cases h⟩, hS, trivial⟩
        · as_aux_lemma =>
            intro vals a W hS hL
            have e40 : a.tmps.getD 40 undef = .agg #[.int .i64 r, .int .i64 c, .bool true, .bool false] := hL.1
            have e41 : a.tmps.getD 41 undef = .agg #[.int .i64 ((b + m) % 65536), .int .i64 ((d + k) % 256)] := hL.2.1
            clear hL
            go_simp
            refine (H4.out W).mono ?_
            rintro e W' ⟨rfl, hb⟩
            exact ⟨_, rfl, ⟨fun d hd => by injection hd with hd; subst hd; rfl, fun h => by cases h⟩, hS.call hb, trivial⟩
        · as_aux_lemma =>
            intro a W vals hv hn hS hL hp hd
            clear hL
            go_simp
            exact ⟨hS.new0 hv hn, trivial, trivial⟩
        · as_aux_lemma =>
            intro a W vals hv hn hS hL hp hd
            clear hL
            go_simp
            exact ⟨hS.new1 hv hn, trivial, trivial⟩
        · as_aux_lemma =>
            intro a W vals hv hn hS hL hp hd
            have e39 : a.tmps.getD 39 undef = .agg #[.int .i64 p, .int .i64 q] := hL.1
            clear hL
            obtain ⟨g, hg, kz, hnx⟩ := hS.at2 hv hn hp.1 hd.1
            rw [Array.getD_eq_getD_getElem?] at hg e39
            have z0 := kz.frozen 0
            have z1 := kz.frozen 1
            have q0 := kz.cell 0
            have q1 := kz.cell 1
            clear kz hS
            go_simp
            exact ⟨hnx _, trivial, trivial⟩
        · as_aux_lemma =>
            intro a W vals hv hn hS hL hp hd
            have e42 : a.tmps.getD 42 undef = .agg #[.int .i64 ((p + m) % 65536), .int .i64 q] := hL.1
            clear hL
            obtain ⟨g, hg, kz, hnx⟩ := hS.at3 hv hn hp.1 hd.1 hd.2.1
            rw [Array.getD_eq_getD_getElem?] at hg e42
            have z0 := kz.frozen 0
            have z1 := kz.frozen 1
            have q0 := kz.cell 0
            have q1 := kz.cell 1
            clear kz hS
            go_simp
            exact ⟨hnx _, trivial, trivial⟩
      · intro a W' vals hd hsz hT hF hv hall hP hS
        obtain ⟨g0, g1, hv0, hv1, hg0, hg1, hg01, hn0, hn1, hB⟩ := hS.fin hv hall
        simp only [List.mem_cons, List.not_mem_nil, or_false, forall_eq_or_imp, forall_eq] at hn0
        have e10 : a.tmps.getD 10 undef = .pointer (some ⟨g0, 0, none⟩) := (hP 0 6 _ 10 _ rfl rfl rfl hv0).symm
        simp only [List.mem_cons, List.not_mem_nil, or_false, forall_eq_or_imp, forall_eq] at hn1
        have e11 : a.tmps.getD 11 undef = .pointer (some ⟨g1, 0, none⟩) := (hP 1 7 _ 11 _ rfl rfl rfl hv1).symm
        have e2 : a.tmps.getD 2 undef = .int .u16 m := hT 2 (by simp)
        have e3 : a.tmps.getD 3 undef = .int .u8 k := hT 3 (by simp)
        have e4 : a.tmps.getD 4 undef = .pointer (some ⟨w.heap.size, 0, none⟩) := hT 4 (by simp)
        have e5 : a.tmps.getD 5 undef = .pointer (some ⟨w.heap.size + 1, 0, none⟩) := hT 5 (by simp)
        have e9 : a.tmps.getD 9 undef = .pointer (some ⟨w3.heap.size, 0, none⟩) := hT 9 (by simp)
        clear hT hF hP hS hall hv0 hv1
        rw [act_lit 70 a hd hsz]
        simp only [List.range, List.range.loop, List.map, e2, e3, e4, e5, e9, e10, e11]
        clear hd hsz e2 e3 e4 e5 e9 e10 e11
        have HB3 := Lib.hid hB
        clear HB2 hB H3 H4
        go_wp2_with fail
        refine wp_region_phases (S := (fun vals W => SX w 2 ([] : List Stp) vals ([(g1, 25, #[.int .i64 ((p + m) % 65536), .int .i64 q]), (g0, 25, #[.int .i64 p, .int .i64 q]), (w3.heap.size, 25, #[.int .i64 ((b + m) % 65536), .int .i64 ((d + k) % 256)]), (w.heap.size + 1, 25, #[.int .i64 b, .int .i64 d]), (w.heap.size, 23, #[.int .i64 r, .int .i64 c, .bool true, .bool false])] : List (Nat × TypeId × Array Value)) W)) (E := (fun _ _ => True)) [] [(2, Is (.int .u16 m)), (3, Is (.int .u8 k)), (4, Is (.pointer (some ⟨w.heap.size, 0, none⟩))), (5, Is (.pointer (some ⟨w.heap.size + 1, 0, none⟩))), (9, Is (.pointer (some ⟨w3.heap.size, 0, none⟩))), (10, Is (.pointer (some ⟨g0, 0, none⟩))), (11, Is (.pointer (some ⟨g1, 0, none⟩)))] [(43, Is (.pointer (some ⟨g0, 0, none⟩))), (44, Is (.int .i64 p)), (45, Is (.pointer (some ⟨g0, 1, none⟩))), (46, Is (.int .i64 q)), (12, Is (.int .i64 p)), (13, Is (.int .i64 q))]
          [.op [10] none, .op [43] none, .op [10] none, .op [45] none, .op [44] none, .op [46] none] (by as_aux_lemma => kernel_rfl) ?_ ?_ ?_ ?_ ?_ ⟨stable_is _ _, stable_is _ _, stable_is _ _, stable_is _ _, stable_is _ _, stable_is _ _, stable_is _ _, stable_is _ _, stable_is _ _, stable_is _ _, stable_is _ _, stable_is _ _, stable_is _ _, trivial⟩ ?_ (HB3.out.drew) ?_ ?_
        · as_aux_lemma => kernel_rfl
        · as_aux_lemma => kernel_rfl
        · as_aux_lemma => kernel_rfl
        · as_aux_lemma => kernel_rfl
        · as_aux_lemma => kernel_rfl
        · exact ⟨rfl, rfl, rfl, rfl, rfl, rfl, rfl, trivial⟩
        · refine ⟨?_, ?_, ?_, ?_, ?_, ?_, trivial⟩
          · as_aux_lemma =>
              intro vals a W hS hL
              have e10 : a.tmps.getD 10 undef = .pointer (some ⟨g0, 0, none⟩) := hL.1
              clear hL
              go_simp
              exact ⟨⟨fun d hd => by injection hd with hd; subst hd; rfl, fun h => by cases h⟩, hS, trivial⟩
          · as_aux_lemma =>
              intro vals a W hS hL
              have e43 : a.tmps.getD 43 undef = .pointer (some ⟨g0, 0, none⟩) := hL.1
              clear hL
              have kb : Bk W (g0) 25 #[.int .i64 p, .int .i64 q] := hS.bk 1 rfl rfl
              have f0 := kb.cell 0
              clear kb
              go_simp
              exact ⟨⟨fun d hd => by injection hd with hd; subst hd; rfl, fun h => by cases h⟩, hS, trivial⟩
          · as_aux_lemma =>
              intro vals a W hS hL
              have e10 : a.tmps.getD 10 undef = .pointer (some ⟨g0, 0, none⟩) := hL.1
              clear hL
              go_simp
              exact ⟨⟨fun d hd => by injection hd with hd; subst hd; rfl, fun h => by cases h⟩, hS, trivial⟩
          · as_aux_lemma =>
              intro vals a W hS hL
              have e45 : a.tmps.getD 45 undef = .pointer (some ⟨g0, 1, none⟩) := hL.1
              clear hL
              have kb : Bk W (g0) 25 #[.int .i64 p, .int .i64 q] := hS.bk 1 rfl rfl
              have f1 := kb.cell 1
              clear kb
              go_simp
              exact ⟨⟨fun d hd => by injection hd with hd; subst hd; rfl, fun h => by cases h⟩, hS, trivial⟩
          · as_aux_lemma =>
              intro vals a W hS hL
              have e44 : a.tmps.getD 44 undef = .int .i64 p := hL.1
              clear hL
              go_simp
              exact ⟨⟨fun d hd => by injection hd with hd; subst hd; rfl, fun h => by cases h⟩, hS, trivial⟩
          · as_aux_lemma =>
              intro vals a W hS hL
              have e46 : a.tmps.getD 46 undef = .int .i64 q := hL.1
              clear hL
              go_simp
              exact ⟨⟨fun d hd => by injection hd with hd; subst hd; rfl, fun h => by cases h⟩, hS, trivial⟩
        · intro a W' vals hd hsz hT hF hv hP hS
          obtain rfl : vals = [] := List.eq_nil_of_length_eq_zero hv
          have hS2 : SX w 2 ([] : List Stp) [] ([(g1, 25, #[.int .i64 ((p + m) % 65536), .int .i64 q]), (g0, 25, #[.int .i64 p, .int .i64 q]), (w3.heap.size, 25, #[.int .i64 ((b + m) % 65536), .int .i64 ((d + k) % 256)]), (w.heap.size + 1, 25, #[.int .i64 b, .int .i64 d]), (w.heap.size, 23, #[.int .i64 r, .int .i64 c, .bool true, .bool false])] : List (Nat × TypeId × Array Value)) W' := hS
          clear hS
          have hB0 := hS2
          have hB : SB w 2 ([(g1, 25, #[.int .i64 ((p + m) % 65536), .int .i64 q]), (g0, 25, #[.int .i64 p, .int .i64 q]), (w3.heap.size, 25, #[.int .i64 ((b + m) % 65536), .int .i64 ((d + k) % 256)]), (w.heap.size + 1, 25, #[.int .i64 b, .int .i64 d]), (w.heap.size, 23, #[.int .i64 r, .int .i64 c, .bool true, .bool false])] : List (Nat × TypeId × Array Value)) W' := hB0
          clear hB0
          have e2 : a.tmps.getD 2 undef = .int .u16 m := hT 2 (by simp)
          have e3 : a.tmps.getD 3 undef = .int .u8 k := hT 3 (by simp)
          have e4 : a.tmps.getD 4 undef = .pointer (some ⟨w.heap.size, 0, none⟩) := hT 4 (by simp)
          have e5 : a.tmps.getD 5 undef = .pointer (some ⟨w.heap.size + 1, 0, none⟩) := hT 5 (by simp)
          have e9 : a.tmps.getD 9 undef = .pointer (some ⟨w3.heap.size, 0, none⟩) := hT 9 (by simp)
          have e10 : a.tmps.getD 10 undef = .pointer (some ⟨g0, 0, none⟩) := hT 10 (by simp)
          have e11 : a.tmps.getD 11 undef = .pointer (some ⟨g1, 0, none⟩) := hT 11 (by simp)
          have e12 : a.tmps.getD 12 undef = .int .i64 p := hT 12 (by simp)
          have e13 : a.tmps.getD 13 undef = .int .i64 q := hT 13 (by simp)
          clear hT hF hP
          rw [act_lit 70 a hd hsz]
          simp only [List.range, List.range.loop, List.map, e2, e3, e4, e5, e9, e10, e11, e12, e13]
          clear hd hsz e2 e3 e4 e5 e9 e10 e11 e12 e13
          have HB4 := Lib.hid hB
          clear HB3 hB
          have kr := HB4.out.box (i := 4) rfl
          have cr0 := kr.cell 0
          have cr1 := kr.cell 1
          have cr2 := kr.cell 2
          have cr3 := kr.cell 3
          clear kr
          have ky := HB4.out.box (i := 0) rfl
          have cy0 := ky.cell 0
          have cy1 := ky.cell 1
          clear ky
          go_wp2_with fail
          refine (H5.out _).mono ?_
          rintro e w5 ⟨rfl, hb⟩
          have hbel := (HB4.out.call hb).bel
          clear hb HB4 H5 cr0 cr1 cr2 cr3 cy0 cy1
          go_wp2
          go_ret
          exact ⟨rfl, hbel⟩
    · rw [hck] at H2
      clear hck
      go_enter Tryd.func6, Tryd.ntmps6
      go_wp2_with fail
      refine (HK.out _ HB.out.bel).mono ?_
      rintro e w1 ⟨rfl, hb⟩
      have hB := HB.out.call hb
      clear hb HB
      have HB := Lib.hid hB
      clear hB
      have kb := HB.out.box (i := 0) rfl
      have cb0 := kb.cell 0
      have cb1 := kb.cell 1
      clear kb
      go_wp2_with fail
      refine (H1.out _).mono ?_
      rintro e w2 ⟨rfl, hb⟩
      have hB := HB.out.call hb
      clear hb HB
      have HB := Lib.hid hB
      clear hB
      clear cb0 cb1
      have kr := HB.out.box (i := 1) rfl
      have cr0 := kr.cell 0
      have cr1 := kr.cell 1
      have cr2 := kr.cell 2
      have cr3 := kr.cell 3
      clear kr
      go_wp2_with fail
      refine (H2.out _).mono ?_
      rintro e w3 ⟨rfl, hb⟩
      have hB := HB.out.call hb
      clear hb HB
      have HB := Lib.hid hB
      clear hB
      clear cr0 cr1 cr2 cr3 HK H1 H2
      have hbel := HB.out.bel
      go_wp2
      go_ret
      exact ⟨rfl, hbel⟩

set_option maxRecDepth 20000 in
set_option maxHeartbeats 2000000 in
theorem round_false_true {w : World} (HV : Tens w) (r c b d m k : Int) (m0 : 0 ≤ m) (m1 : m ≤ 65535) (k0 : 0 ≤ k) (k1 : k ≤ 255) :
    Calls Tryd.prog 6 #[.agg #[.int .i64 r, .int .i64 c, .bool false, .bool true], .agg #[.int .i64 b, .int .i64 d], .int .u16 m, .int .u8 k] w fun e w' => e = .returned (.bool true) ∧ Below w.heap.size w w' := by
  have HK : Hid (∀ W : World, Below w.heap.size w W → Calls Tryd.prog 9 #[] W fun e w' => e = .returned (.bool true) ∧ Below W.heap.size W w') := Lib.hid (fun W hb => known8_any (HV.below hb))
  have H1 : Hid (∀ W : World, Calls Tryd.prog 13 #[.agg #[.int .i64 b, .int .i64 d]] W fun e w' => e = .returned (.bool (gdB b d)) ∧ Below W.heap.size W w') := Lib.hid (fun W => good_any b d)
  have H2 : Hid (∀ W : World, Calls Tryd.prog 10 #[.agg #[.int .i64 r, .int .i64 c, .bool false, .bool true]] W fun e w' => e = .returned (.int .i64 (ckI r c)) ∧ Below W.heap.size W w') := Lib.hid (fun W => check_any r c false true)
  have HB : Hid (SB w 2 ([(w.heap.size + 1, 25, #[.int .i64 b, .int .i64 d]), (w.heap.size, 23, #[.int .i64 r, .int .i64 c, .bool false, .bool true])] : List (Nat × TypeId × Array Value)) ((w.alloc (.cells #[.int .i64 r, .int .i64 c, .bool false, .bool true] 23)).alloc (.cells #[.int .i64 b, .int .i64 d] 25))) := Lib.hid ((sb1 w 23 #[.int .i64 r, .int .i64 c, .bool false, .bool true]).push (by simp) 25 #[.int .i64 b, .int .i64 d])
  clear HV
  cases hgb : gdB b d
  · rw [hgb] at H1
    clear hgb
    go_enter Tryd.func6, Tryd.ntmps6
    go_wp2_with fail
    refine (HK.out _ HB.out.bel).mono ?_
    rintro e w1 ⟨rfl, hb⟩
    have hB := HB.out.call hb
    clear hb HB
    have HB := Lib.hid hB
    clear hB
    have kb := HB.out.box (i := 0) rfl
    have cb0 := kb.cell 0
    have cb1 := kb.cell 1
    clear kb
    go_wp2_with fail
    refine (H1.out _).mono ?_
    rintro e w2 ⟨rfl, hb⟩
    have hB := HB.out.call hb
    clear hb HB
    have HB := Lib.hid hB
    clear hB
    clear cb0 cb1 HK H1 H2
    have hbel := HB.out.bel
    go_wp2
    go_ret
    exact ⟨rfl, hbel⟩
  · rw [hgb] at H1
    obtain ⟨b0, b1, d0, d1⟩ := gdB_iff.1 hgb
    clear hgb
    rcases ck_cases r c with ⟨-, hck⟩ | ⟨-, hck⟩
    · rw [hck] at H2
      clear hck
      obtain ⟨pb0, pb1⟩ := fo_bd r b false 65536 (by decide)
      obtain ⟨qb0, qb1⟩ := fo_bd c d true 256 (by decide)
      have H3 : Hid (∀ W : World, Calls Tryd.prog 16 #[.agg #[.int .i64 r, .int .i64 c, .bool false, .bool true], .agg #[.int .i64 b, .int .i64 d]] W fun e w' => e = .returned (.agg #[.int .i64 (fo r b false 65536), .int .i64 (fo c d true 256)]) ∧ Below W.heap.size W w') := Lib.hid (fun W => at_any r c b d false true)
      have H4 : Hid (∀ W : World, Calls Tryd.prog 16 #[.agg #[.int .i64 r, .int .i64 c, .bool false, .bool true], .agg #[.int .i64 ((b + m) % 65536), .int .i64 ((d + k) % 256)]] W fun e w' => e = .returned (.agg #[.int .i64 (fo r b false 65536), .int .i64 ((fo c d true 256 + k) % 256)]) ∧ Below W.heap.size W w') := Lib.hid (fun W => by
        have := at_any (w := W) r c ((b + m) % 65536) ((d + k) % 256) false true
        rw [show fo r ((b + m) % 65536) false 65536 = fo r b false 65536 from (fo_far_r r b m false b0 m0).trans (by simp)] at this
        rw [show fo c ((d + k) % 256) true 256 = (fo c d true 256 + k) % 256 from (fo_far_c c d k true d0 k0).trans (by simp)] at this
        exact this)
      generalize fo r b false 65536 = p at *
      generalize fo c d true 256 = q at *
      have H5 : Hid (∀ W : World, Calls Tryd.prog 13 #[.agg #[.int .i64 p, .int .i64 ((q + k) % 256)]] W fun e w' => e = .returned (.bool true) ∧ Below W.heap.size W w') := Lib.hid (fun W => by
        have := good_any (w := W) (p) ((q + k) % 256)
        rw [show gdB (p) ((q + k) % 256) = true from gdB_iff.2 ⟨by omega, by omega, by omega, by omega⟩] at this
        exact this)
      go_enter Tryd.func6, Tryd.ntmps6
      go_wp2_with fail
      refine (HK.out _ HB.out.bel).mono ?_
      rintro e w1 ⟨rfl, hb⟩
      have hB := HB.out.call hb
      clear hb HB
      have HB := Lib.hid hB
      clear hB
      have kb := HB.out.box (i := 0) rfl
      have cb0 := kb.cell 0
      have cb1 := kb.cell 1
      clear kb
      go_wp2_with fail
      refine (H1.out _).mono ?_
      rintro e w2 ⟨rfl, hb⟩
      have hB := HB.out.call hb
      clear hb HB
      have HB := Lib.hid hB
      clear hB
      clear cb0 cb1
      have kr := HB.out.box (i := 1) rfl
      have cr0 := kr.cell 0
      have cr1 := kr.cell 1
      have cr2 := kr.cell 2
      have cr3 := kr.cell 3
      clear kr
      go_wp2_with fail
      refine (H2.out _).mono ?_
      rintro e w3 ⟨rfl, hb⟩
      have hB := HB.out.call hb
      clear hb HB
      have HB := Lib.hid hB
      clear hB
      clear cr0 cr1 cr2 cr3 HK H1 H2
      have kb := HB.out.box (i := 0) rfl
      have cb0 := kb.cell 0
      have cb1 := kb.cell 1
      clear kb
      have HB2 := Lib.hid (HB.out.alloc 25 #[.int .i64 ((b + m) % 65536), .int .i64 ((d + k) % 256)])
      go_wp2_with fail
      clear cb0 cb1 HB
      refine wp_region_parts (S := S22 w 2 ([(w3.heap.size, 25, #[.int .i64 ((b + m) % 65536), .int .i64 ((d + k) % 256)]), (w.heap.size + 1, 25, #[.int .i64 b, .int .i64 d]), (w.heap.size, 23, #[.int .i64 r, .int .i64 c, .bool false, .bool true])] : List (Nat × TypeId × Array Value)) 25 #[.int .i64 0, .int .i64 0] #[.int .i64 p, .int .i64 q] 25 #[.int .i64 0, .int .i64 0] #[.int .i64 p, .int .i64 ((q + k) % 256)]) (E := fun _ _ => True) [6, 7, 8, 9] [(4, Is (.pointer (some ⟨w.heap.size, 0, none⟩))), (5, Is (.pointer (some ⟨w.heap.size + 1, 0, none⟩))), (9, Is (.pointer (some ⟨w3.heap.size, 0, none⟩))), (2, Is (.int .u16 m)), (3, Is (.int .u8 k))] [(37, Is (.agg #[.int .i64 r, .int .i64 c, .bool false, .bool true])), (38, Is (.agg #[.int .i64 b, .int .i64 d])), (39, Is (.agg #[.int .i64 p, .int .i64 q])), (40, Is (.agg #[.int .i64 r, .int .i64 c, .bool false, .bool true])), (41, Is (.agg #[.int .i64 ((b + m) % 65536), .int .i64 ((d + k) % 256)])), (42, Is (.agg #[.int .i64 p, .int .i64 ((q + k) % 256)]))]
        [.op [4] none, .op [5] none, .op [37, 38] none, .op [4] none, .op [9] none, .op [40, 41] none, .phase 0 [] [] [], .phase 1 [] [] [], .phase 2 [39] [(0, 10)] [1], .phase 3 [42] [(1, 11)] [2, 0]] (by as_aux_lemma => kernel_rfl) ?_ ?_ ?_ ?_ ?_ ⟨stable_is _ _, stable_is _ _, stable_is _ _, stable_is _ _, stable_is _ _, stable_is _ _, stable_is _ _, stable_is _ _, stable_is _ _, stable_is _ _, stable_is _ _, trivial⟩ ?_ (HB2.out.drew) ?_ ?_
      · as_aux_lemma => kernel_rfl
      · as_aux_lemma => kernel_rfl
      · as_aux_lemma => kernel_rfl
      · as_aux_lemma => kernel_rfl
      · as_aux_lemma => kernel_rfl
      · exact ⟨rfl, rfl, rfl, rfl, rfl, trivial⟩
      · refine ⟨?_, ?_, ?_, ?_, ?_, ?_, ?_, ?_, ?_, ?_, trivial⟩
        · as_aux_lemma =>
            intro vals a W hS hL
            have e4 : a.tmps.getD 4 undef = .pointer (some ⟨w.heap.size, 0, none⟩) := hL.1
            clear hL
            have kb : Bk W (w.heap.size) 23 #[.int .i64 r, .int .i64 c, .bool false, .bool true] := hS.bk 2 rfl
            have f0 := kb.cell 0
            have f1 := kb.cell 1
            have f2 := kb.cell 2
            have f3 := kb.cell 3
            clear kb
            go_simp
            exact ⟨⟨fun d hd => by injection hd with hd; subst hd; rfl, fun h => by cases h⟩, hS, trivial⟩
        · as_aux_lemma =>
            intro vals a W hS hL
            have e5 : a.tmps.getD 5 undef = .pointer (some ⟨w.heap.size + 1, 0, none⟩) := hL.1
            clear hL
            have kb : Bk W (w.heap.size + 1) 25 #[.int .i64 b, .int .i64 d] := hS.bk 1 rfl
            have f0 := kb.cell 0
            have f1 := kb.cell 1
            clear kb
            go_simp
            exact ⟨⟨fun d hd => by injection hd with hd; subst hd; rfl, fun h => by cases h⟩, hS, trivial⟩
        · as_aux_lemma =>
            intro vals a W hS hL
            have e37 : a.tmps.getD 37 undef = .agg #[.int .i64 r, .int .i64 c, .bool false, .bool true] := hL.1
            have e38 : a.tmps.getD 38 undef = .agg #[.int .i64 b, .int .i64 d] := hL.2.1
            clear hL
            go_simp
            refine (H3.out W).mono ?_
            rintro e W' ⟨rfl, hb⟩
            exact ⟨_, rfl, ⟨fun d hd => by injection hd with hd; subst hd; rfl, fun h => by cases h⟩, hS.call hb, trivial⟩
        · as_aux_lemma =>
            intro vals a W hS hL
            have e4 : a.tmps.getD 4 undef = .pointer (some ⟨w.heap.size, 0, none⟩) := hL.1
            clear hL
            have kb : Bk W (w.heap.size) 23 #[.int .i64 r, .int .i64 c, .bool false, .bool true] := hS.bk 2 rfl
            have f0 := kb.cell 0
            have f1 := kb.cell 1
            have f2 := kb.cell 2
            have f3 := kb.cell 3
            clear kb
            go_simp
            exact ⟨⟨fun d hd => by injection hd with hd; subst hd; rfl, fun h => by cases h⟩, hS, trivial⟩
        · as_aux_lemma =>
            intro vals a W hS hL
            have e9 : a.tmps.getD 9 undef = .pointer (some ⟨w3.heap.size, 0, none⟩) := hL.1
            clear hL
            have kb : Bk W (w3.heap.size) 25 #[.int .i64 ((b + m) % 65536), .int .i64 ((d + k) % 256)] := hS.bk 0 rfl
            have f0 := kb.cell 0
            have f1 := kb.cell 1
            clear kb
            go_simp
            exact ⟨⟨fun d hd => by injection hd with hd; subst hd; rfl, fun h => by cases h⟩, hS, trivial⟩
        · as_aux_lemma =>
            intro vals a W hS hL
            have e40 : a.tmps.getD 40 undef = .agg #[.int .i64 r, .int .i64 c, .bool false, .bool true] := hL.1
            have e41 : a.tmps.getD 41 undef = .agg #[.int .i64 ((b + m) % 65536), .int .i64 ((d + k) % 256)] := hL.2.1
            clear hL
            go_simp
            refine (H4.out W).mono ?_
            rintro e W' ⟨rfl, hb⟩
            exact ⟨_, rfl, ⟨fun d hd => by injection hd with hd; subst hd; rfl, fun h => by cases h⟩, hS.call hb, trivial⟩
        · as_aux_lemma =>
            intro a W vals hv hn hS hL hp hd
            clear hL
            go_simp
            exact ⟨hS.new0 hv hn, trivial, trivial⟩
        · as_aux_lemma =>
            intro a W vals hv hn hS hL hp hd
            clear hL
            go_simp
            exact ⟨hS.new1 hv hn, trivial, trivial⟩
        · as_aux_lemma =>
            intro a W vals hv hn hS hL hp hd
            have e39 : a.tmps.getD 39 undef = .agg #[.int .i64 p, .int .i64 q] := hL.1
            clear hL
            obtain ⟨g, hg, kz, hnx⟩ := hS.at2 hv hn hp.1 hd.1
            rw [Array.getD_eq_getD_getElem?] at hg e39
            have z0 := kz.frozen 0
            have z1 := kz.frozen 1
            have q0 := kz.cell 0
            have q1 := kz.cell 1
            clear kz hS
            go_simp
            exact ⟨hnx _, trivial, trivial⟩
        · as_aux_lemma =>
            intro a W vals hv hn hS hL hp hd
            have e42 : a.tmps.getD 42 undef = .agg #[.int .i64 p, .int .i64 ((q + k) % 256)] := hL.1
            clear hL
            obtain ⟨g, hg, kz, hnx⟩ := hS.at3 hv hn hp.1 hd.1 hd.2.1
            rw [Array.getD_eq_getD_getElem?] at hg e42
            have z0 := kz.frozen 0
            have z1 := kz.frozen 1
            have q0 := kz.cell 0
            have q1 := kz.cell 1
            clear kz hS
            go_simp
            exact ⟨hnx _, trivial, trivial⟩
      · intro a W' vals hd hsz hT hF hv hall hP hS
        obtain ⟨g0, g1, hv0, hv1, hg0, hg1, hg01, hn0, hn1, hB⟩ := hS.fin hv hall
        simp only [List.mem_cons, List.not_mem_nil, or_false, forall_eq_or_imp, forall_eq] at hn0
        have e10 : a.tmps.getD 10 undef = .pointer (some ⟨g0, 0, none⟩) := (hP 0 6 _ 10 _ rfl rfl rfl hv0).symm
        simp only [List.mem_cons, List.not_mem_nil, or_false, forall_eq_or_imp, forall_eq] at hn1
        have e11 : a.tmps.getD 11 undef = .pointer (some ⟨g1, 0, none⟩) := (hP 1 7 _ 11 _ rfl rfl rfl hv1).symm
        have e2 : a.tmps.getD 2 undef = .int .u16 m := hT 2 (by simp)
        have e3 : a.tmps.getD 3 undef = .int .u8 k := hT 3 (by simp)
        have e4 : a.tmps.getD 4 undef = .pointer (some ⟨w.heap.size, 0, none⟩) := hT 4 (by simp)
        have e5 : a.tmps.getD 5 undef = .pointer (some ⟨w.heap.size + 1, 0, none⟩) := hT 5 (by simp)
        have e9 : a.tmps.getD 9 undef = .pointer (some ⟨w3.heap.size, 0, none⟩) := hT 9 (by simp)
        clear hT hF hP hS hall hv0 hv1
        rw [act_lit 70 a hd hsz]
        simp only [List.range, List.range.loop, List.map, e2, e3, e4, e5, e9, e10, e11]
        clear hd hsz e2 e3 e4 e5 e9 e10 e11
        have HB3 := Lib.hid hB
        clear HB2 hB H3 H4
        go_wp2_with fail
        refine wp_region_phases (S := (fun vals W => SX w 2 ([] : List Stp) vals ([(g1, 25, #[.int .i64 p, .int .i64 ((q + k) % 256)]), (g0, 25, #[.int .i64 p, .int .i64 q]), (w3.heap.size, 25, #[.int .i64 ((b + m) % 65536), .int .i64 ((d + k) % 256)]), (w.heap.size + 1, 25, #[.int .i64 b, .int .i64 d]), (w.heap.size, 23, #[.int .i64 r, .int .i64 c, .bool false, .bool true])] : List (Nat × TypeId × Array Value)) W)) (E := (fun _ _ => True)) [] [(2, Is (.int .u16 m)), (3, Is (.int .u8 k)), (4, Is (.pointer (some ⟨w.heap.size, 0, none⟩))), (5, Is (.pointer (some ⟨w.heap.size + 1, 0, none⟩))), (9, Is (.pointer (some ⟨w3.heap.size, 0, none⟩))), (10, Is (.pointer (some ⟨g0, 0, none⟩))), (11, Is (.pointer (some ⟨g1, 0, none⟩)))] [(43, Is (.pointer (some ⟨g0, 0, none⟩))), (44, Is (.int .i64 p)), (45, Is (.pointer (some ⟨g0, 1, none⟩))), (46, Is (.int .i64 q)), (12, Is (.int .i64 p)), (13, Is (.int .i64 q))]
          [.op [10] none, .op [43] none, .op [10] none, .op [45] none, .op [44] none, .op [46] none] (by as_aux_lemma => kernel_rfl) ?_ ?_ ?_ ?_ ?_ ⟨stable_is _ _, stable_is _ _, stable_is _ _, stable_is _ _, stable_is _ _, stable_is _ _, stable_is _ _, stable_is _ _, stable_is _ _, stable_is _ _, stable_is _ _, stable_is _ _, stable_is _ _, trivial⟩ ?_ (HB3.out.drew) ?_ ?_
        · as_aux_lemma => kernel_rfl
        · as_aux_lemma => kernel_rfl
        · as_aux_lemma => kernel_rfl
        · as_aux_lemma => kernel_rfl
        · as_aux_lemma => kernel_rfl
        · exact ⟨rfl, rfl, rfl, rfl, rfl, rfl, rfl, trivial⟩
        · refine ⟨?_, ?_, ?_, ?_, ?_, ?_, trivial⟩
          · as_aux_lemma =>
              intro vals a W hS hL
              have e10 : a.tmps.getD 10 undef = .pointer (some ⟨g0, 0, none⟩) := hL.1
              clear hL
              go_simp
              exact ⟨⟨fun d hd => by injection hd with hd; subst hd; rfl, fun h => by cases h⟩, hS, trivial⟩
          · as_aux_lemma =>
              intro vals a W hS hL
              have e43 : a.tmps.getD 43 undef = .pointer (some ⟨g0, 0, none⟩) := hL.1
              clear hL
              have kb : Bk W (g0) 25 #[.int .i64 p, .int .i64 q] := hS.bk 1 rfl rfl
              have f0 := kb.cell 0
              clear kb
              go_simp
              exact ⟨⟨fun d hd => by injection hd with hd; subst hd; rfl, fun h => by cases h⟩, hS, trivial⟩
          · as_aux_lemma =>
              intro vals a W hS hL
              have e10 : a.tmps.getD 10 undef = .pointer (some ⟨g0, 0, none⟩) := hL.1
              clear hL
              go_simp
              exact ⟨⟨fun d hd => by injection hd with hd; subst hd; rfl, fun h => by cases h⟩, hS, trivial⟩
          · as_aux_lemma =>
              intro vals a W hS hL
              have e45 : a.tmps.getD 45 undef = .pointer (some ⟨g0, 1, none⟩) := hL.1
              clear hL
              have kb : Bk W (g0) 25 #[.int .i64 p, .int .i64 q] := hS.bk 1 rfl rfl
              have f1 := kb.cell 1
              clear kb
              go_simp
              exact ⟨⟨fun d hd => by injection hd with hd; subst hd; rfl, fun h => by cases h⟩, hS, trivial⟩
          · as_aux_lemma =>
              intro vals a W hS hL
              have e44 : a.tmps.getD 44 undef = .int .i64 p := hL.1
              clear hL
              go_simp
              exact ⟨⟨fun d hd => by injection hd with hd; subst hd; rfl, fun h => by cases h⟩, hS, trivial⟩
          · as_aux_lemma =>
              intro vals a W hS hL
              have e46 : a.tmps.getD 46 undef = .int .i64 q := hL.1
              clear hL
              go_simp
              exact ⟨⟨fun d hd => by injection hd with hd; subst hd; rfl, fun h => by cases h⟩, hS, trivial⟩
        · intro a W' vals hd hsz hT hF hv hP hS
          obtain rfl : vals = [] := List.eq_nil_of_length_eq_zero hv
          have hS2 : SX w 2 ([] : List Stp) [] ([(g1, 25, #[.int .i64 p, .int .i64 ((q + k) % 256)]), (g0, 25, #[.int .i64 p, .int .i64 q]), (w3.heap.size, 25, #[.int .i64 ((b + m) % 65536), .int .i64 ((d + k) % 256)]), (w.heap.size + 1, 25, #[.int .i64 b, .int .i64 d]), (w.heap.size, 23, #[.int .i64 r, .int .i64 c, .bool false, .bool true])] : List (Nat × TypeId × Array Value)) W' := hS
          clear hS
          have hB0 := hS2
          have hB : SB w 2 ([(g1, 25, #[.int .i64 p, .int .i64 ((q + k) % 256)]), (g0, 25, #[.int .i64 p, .int .i64 q]), (w3.heap.size, 25, #[.int .i64 ((b + m) % 65536), .int .i64 ((d + k) % 256)]), (w.heap.size + 1, 25, #[.int .i64 b, .int .i64 d]), (w.heap.size, 23, #[.int .i64 r, .int .i64 c, .bool false, .bool true])] : List (Nat × TypeId × Array Value)) W' := hB0
          clear hB0
          have e2 : a.tmps.getD 2 undef = .int .u16 m := hT 2 (by simp)
          have e3 : a.tmps.getD 3 undef = .int .u8 k := hT 3 (by simp)
          have e4 : a.tmps.getD 4 undef = .pointer (some ⟨w.heap.size, 0, none⟩) := hT 4 (by simp)
          have e5 : a.tmps.getD 5 undef = .pointer (some ⟨w.heap.size + 1, 0, none⟩) := hT 5 (by simp)
          have e9 : a.tmps.getD 9 undef = .pointer (some ⟨w3.heap.size, 0, none⟩) := hT 9 (by simp)
          have e10 : a.tmps.getD 10 undef = .pointer (some ⟨g0, 0, none⟩) := hT 10 (by simp)
          have e11 : a.tmps.getD 11 undef = .pointer (some ⟨g1, 0, none⟩) := hT 11 (by simp)
          have e12 : a.tmps.getD 12 undef = .int .i64 p := hT 12 (by simp)
          have e13 : a.tmps.getD 13 undef = .int .i64 q := hT 13 (by simp)
          clear hT hF hP
          rw [act_lit 70 a hd hsz]
          simp only [List.range, List.range.loop, List.map, e2, e3, e4, e5, e9, e10, e11, e12, e13]
          clear hd hsz e2 e3 e4 e5 e9 e10 e11 e12 e13
          have HB4 := Lib.hid hB
          clear HB3 hB
          have kr := HB4.out.box (i := 4) rfl
          have cr0 := kr.cell 0
          have cr1 := kr.cell 1
          have cr2 := kr.cell 2
          have cr3 := kr.cell 3
          clear kr
          have ky := HB4.out.box (i := 0) rfl
          have cy0 := ky.cell 0
          have cy1 := ky.cell 1
          clear ky
          go_wp2_with fail
          refine (H5.out _).mono ?_
          rintro e w5 ⟨rfl, hb⟩
          have hbel := (HB4.out.call hb).bel
          clear hb HB4 H5 cr0 cr1 cr2 cr3 cy0 cy1
          go_wp2
          go_ret
          exact ⟨rfl, hbel⟩
    · rw [hck] at H2
      clear hck
      go_enter Tryd.func6, Tryd.ntmps6
      go_wp2_with fail
      refine (HK.out _ HB.out.bel).mono ?_
      rintro e w1 ⟨rfl, hb⟩
      have hB := HB.out.call hb
      clear hb HB
      have HB := Lib.hid hB
      clear hB
      have kb := HB.out.box (i := 0) rfl
      have cb0 := kb.cell 0
      have cb1 := kb.cell 1
      clear kb
      go_wp2_with fail
      refine (H1.out _).mono ?_
      rintro e w2 ⟨rfl, hb⟩
      have hB := HB.out.call hb
      clear hb HB
      have HB := Lib.hid hB
      clear hB
      clear cb0 cb1
      have kr := HB.out.box (i := 1) rfl
      have cr0 := kr.cell 0
      have cr1 := kr.cell 1
      have cr2 := kr.cell 2
      have cr3 := kr.cell 3
      clear kr
      go_wp2_with fail
      refine (H2.out _).mono ?_
      rintro e w3 ⟨rfl, hb⟩
      have hB := HB.out.call hb
      clear hb HB
      have HB := Lib.hid hB
      clear hB
      clear cr0 cr1 cr2 cr3 HK H1 H2
      have hbel := HB.out.bel
      go_wp2
      go_ret
      exact ⟨rfl, hbel⟩

set_option maxRecDepth 20000 in
set_option maxHeartbeats 2000000 in
theorem round_false_false {w : World} (HV : Tens w) (r c b d m k : Int) (m0 : 0 ≤ m) (m1 : m ≤ 65535) (k0 : 0 ≤ k) (k1 : k ≤ 255) :
    Calls Tryd.prog 6 #[.agg #[.int .i64 r, .int .i64 c, .bool false, .bool false], .agg #[.int .i64 b, .int .i64 d], .int .u16 m, .int .u8 k] w fun e w' => e = .returned (.bool true) ∧ Below w.heap.size w w' := by
  have HK : Hid (∀ W : World, Below w.heap.size w W → Calls Tryd.prog 9 #[] W fun e w' => e = .returned (.bool true) ∧ Below W.heap.size W w') := Lib.hid (fun W hb => known8_any (HV.below hb))
  have H1 : Hid (∀ W : World, Calls Tryd.prog 13 #[.agg #[.int .i64 b, .int .i64 d]] W fun e w' => e = .returned (.bool (gdB b d)) ∧ Below W.heap.size W w') := Lib.hid (fun W => good_any b d)
  have H2 : Hid (∀ W : World, Calls Tryd.prog 10 #[.agg #[.int .i64 r, .int .i64 c, .bool false, .bool false]] W fun e w' => e = .returned (.int .i64 (ckI r c)) ∧ Below W.heap.size W w') := Lib.hid (fun W => check_any r c false false)
  have HB : Hid (SB w 2 ([(w.heap.size + 1, 25, #[.int .i64 b, .int .i64 d]), (w.heap.size, 23, #[.int .i64 r, .int .i64 c, .bool false, .bool false])] : List (Nat × TypeId × Array Value)) ((w.alloc (.cells #[.int .i64 r, .int .i64 c, .bool false, .bool false] 23)).alloc (.cells #[.int .i64 b, .int .i64 d] 25))) := Lib.hid ((sb1 w 23 #[.int .i64 r, .int .i64 c, .bool false, .bool false]).push (by simp) 25 #[.int .i64 b, .int .i64 d])
  clear HV
  cases hgb : gdB b d
  · rw [hgb] at H1
    clear hgb
    go_enter Tryd.func6, Tryd.ntmps6
    go_wp2_with fail
    refine (HK.out _ HB.out.bel).mono ?_
    rintro e w1 ⟨rfl, hb⟩
    have hB := HB.out.call hb
    clear hb HB
    have HB := Lib.hid hB
    clear hB
    have kb := HB.out.box (i := 0) rfl
    have cb0 := kb.cell 0
    have cb1 := kb.cell 1
    clear kb
    go_wp2_with fail
    refine (H1.out _).mono ?_
    rintro e w2 ⟨rfl, hb⟩
    have hB := HB.out.call hb
    clear hb HB
    have HB := Lib.hid hB
    clear hB
    clear cb0 cb1 HK H1 H2
    have hbel := HB.out.bel
    go_wp2
    go_ret
    exact ⟨rfl, hbel⟩
  · rw [hgb] at H1
    obtain ⟨b0, b1, d0, d1⟩ := gdB_iff.1 hgb
    clear hgb
    rcases ck_cases r c with ⟨-, hck⟩ | ⟨-, hck⟩
    · rw [hck] at H2
      clear hck
      obtain ⟨pb0, pb1⟩ := fo_bd r b false 65536 (by decide)
      obtain ⟨qb0, qb1⟩ := fo_bd c d false 256 (by decide)
      have H3 : Hid (∀ W : World, Calls Tryd.prog 16 #[.agg #[.int .i64 r, .int .i64 c, .bool false, .bool false], .agg #[.int .i64 b, .int .i64 d]] W fun e w' => e = .returned (.agg #[.int .i64 (fo r b false 65536), .int .i64 (fo c d false 256)]) ∧ Below W.heap.size W w') := Lib.hid (fun W => at_any r c b d false false)
      have H4 : Hid (∀ W : World, Calls Tryd.prog 16 #[.agg #[.int .i64 r, .int .i64 c, .bool false, .bool false], .agg #[.int .i64 ((b + m) % 65536), .int .i64 ((d + k) % 256)]] W fun e w' => e = .returned (.agg #[.int .i64 (fo r b false 65536), .int .i64 (fo c d false 256)]) ∧ Below W.heap.size W w') := Lib.hid (fun W => by
        have := at_any (w := W) r c ((b + m) % 65536) ((d + k) % 256) false false
        rw [show fo r ((b + m) % 65536) false 65536 = fo r b false 65536 from (fo_far_r r b m false b0 m0).trans (by simp)] at this
        rw [show fo c ((d + k) % 256) false 256 = fo c d false 256 from (fo_far_c c d k false d0 k0).trans (by simp)] at this
        exact this)
      generalize fo r b false 65536 = p at *
      generalize fo c d false 256 = q at *
      have H5 : Hid (∀ W : World, Calls Tryd.prog 13 #[.agg #[.int .i64 p, .int .i64 q]] W fun e w' => e = .returned (.bool true) ∧ Below W.heap.size W w') := Lib.hid (fun W => by
        have := good_any (w := W) (p) (q)
        rw [show gdB (p) (q) = true from gdB_iff.2 ⟨by omega, by omega, by omega, by omega⟩] at this
        exact this)
      go_enter Tryd.func6, Tryd.ntmps6
      go_wp2_with fail
      refine (HK.out _ HB.out.bel).mono ?_
      rintro e w1 ⟨rfl, hb⟩
      have hB := HB.out.call hb
      clear hb HB
      have HB := Lib.hid hB
      clear hB
      have kb := HB.out.box (i := 0) rfl
      have cb0 := kb.cell 0
      have cb1 := kb.cell 1
      clear kb
      go_wp2_with fail
      refine (H1.out _).mono ?_
      rintro e w2 ⟨rfl, hb⟩
      have hB := HB.out.call hb
      clear hb HB
      have HB := Lib.hid hB
      clear hB
      clear cb0 cb1
      have kr := HB.out.box (i := 1) rfl
      have cr0 := kr.cell 0
      have cr1 := kr.cell 1
      have cr2 := kr.cell 2
      have cr3 := kr.cell 3
      clear kr
      go_wp2_with fail
      refine (H2.out _).mono ?_
      rintro e w3 ⟨rfl, hb⟩
      have hB := HB.out.call hb
      clear hb HB
      have HB := Lib.hid hB
      clear hB
      clear cr0 cr1 cr2 cr3 HK H1 H2
      have kb := HB.out.box (i := 0) rfl
      have cb0 := kb.cell 0
      have cb1 := kb.cell 1
      clear kb
      have HB2 := Lib.hid (HB.out.alloc 25 #[.int .i64 ((b + m) % 65536), .int .i64 ((d + k) % 256)])
      go_wp2_with fail
      clear cb0 cb1 HB
      refine wp_region_parts (S := S22 w 2 ([(w3.heap.size, 25, #[.int .i64 ((b + m) % 65536), .int .i64 ((d + k) % 256)]), (w.heap.size + 1, 25, #[.int .i64 b, .int .i64 d]), (w.heap.size, 23, #[.int .i64 r, .int .i64 c, .bool false, .bool false])] : List (Nat × TypeId × Array Value)) 25 #[.int .i64 0, .int .i64 0] #[.int .i64 p, .int .i64 q] 25 #[.int .i64 0, .int .i64 0] #[.int .i64 p, .int .i64 q]) (E := fun _ _ => True) [6, 7, 8, 9] [(4, Is (.pointer (some ⟨w.heap.size, 0, none⟩))), (5, Is (.pointer (some ⟨w.heap.size + 1, 0, none⟩))), (9, Is (.pointer (some ⟨w3.heap.size, 0, none⟩))), (2, Is (.int .u16 m)), (3, Is (.int .u8 k))] [(37, Is (.agg #[.int .i64 r, .int .i64 c, .bool false, .bool false])), (38, Is (.agg #[.int .i64 b, .int .i64 d])), (39, Is (.agg #[.int .i64 p, .int .i64 q])), (40, Is (.agg #[.int .i64 r, .int .i64 c, .bool false, .bool false])), (41, Is (.agg #[.int .i64 ((b + m) % 65536), .int .i64 ((d + k) % 256)])), (42, Is (.agg #[.int .i64 p, .int .i64 q]))]
        [.op [4] none, .op [5] none, .op [37, 38] none, .op [4] none, .op [9] none, .op [40, 41] none, .phase 0 [] [] [], .phase 1 [] [] [], .phase 2 [39] [(0, 10)] [1], .phase 3 [42] [(1, 11)] [2, 0]] (by as_aux_lemma => kernel_rfl) ?_ ?_ ?_ ?_ ?_ ⟨stable_is _ _, stable_is _ _, stable_is _ _, stable_is _ _, stable_is _ _, stable_is _ _, stable_is _ _, stable_is _ _, stable_is _ _, stable_is _ _, stable_is _ _, trivial⟩ ?_ (HB2.out.drew) ?_ ?_
      · as_aux_lemma => kernel_rfl
      · as_aux_lemma => kernel_rfl
      · as_aux_lemma => kernel_rfl
      · as_aux_lemma => kernel_rfl
      · as_aux_lemma => kernel_rfl
      · exact ⟨rfl, rfl, rfl, rfl, rfl, trivial⟩
      · refine ⟨?_, ?_, ?_, ?_, ?_, ?_, ?_, ?_, ?_, ?_, trivial⟩
        · as_aux_lemma =>
            intro vals a W hS hL
            have e4 : a.tmps.getD 4 undef = .pointer (some ⟨w.heap.size, 0, none⟩) := hL.1
            clear hL
            have kb : Bk W (w.heap.size) 23 #[.int .i64 r, .int .i64 c, .bool false, .bool false] := hS.bk 2 rfl
            have f0 := kb.cell 0
            have f1 := kb.cell 1
            have f2 := kb.cell 2
            have f3 := kb.cell 3
            clear kb
            go_simp
            exact ⟨⟨fun d hd => by injection hd with hd; subst hd; rfl, fun h => by cases h⟩, hS, trivial⟩
        · as_aux_lemma =>
            intro vals a W hS hL
            have e5 : a.tmps.getD 5 undef = .pointer (some ⟨w.heap.size + 1, 0, none⟩) := hL.1
            clear hL
            have kb : Bk W (w.heap.size + 1) 25 #[.int .i64 b, .int .i64 d] := hS.bk 1 rfl
            have f0 := kb.cell 0
            have f1 := kb.cell 1
            clear kb
            go_simp
            exact ⟨⟨fun d hd => by injection hd with hd; subst hd; rfl, fun h => by cases h⟩, hS, trivial⟩
        · as_aux_lemma =>
            intro vals a W hS hL
            have e37 : a.tmps.getD 37 undef = .agg #[.int .i64 r, .int .i64 c, .bool false, .bool false] := hL.1
            have e38 : a.tmps.getD 38 undef = .agg #[.int .i64 b, .int .i64 d] := hL.2.1
            clear hL
            go_simp
            refine (H3.out W).mono ?_
            rintro e W' ⟨rfl, hb⟩
            exact ⟨_, rfl, ⟨fun d hd => by injection hd with hd; subst hd; rfl, fun h => by cases h⟩, hS.call hb, trivial⟩
        · as_aux_lemma =>
            intro vals a W hS hL
            have e4 : a.tmps.getD 4 undef = .pointer (some ⟨w.heap.size, 0, none⟩) := hL.1
            clear hL
            have kb : Bk W (w.heap.size) 23 #[.int .i64 r, .int .i64 c, .bool false, .bool false] := hS.bk 2 rfl
            have f0 := kb.cell 0
            have f1 := kb.cell 1
            have f2 := kb.cell 2
            have f3 := kb.cell 3
            clear kb
            go_simp
            exact ⟨⟨fun d hd => by injection hd with hd; subst hd; rfl, fun h => by cases h⟩, hS, trivial⟩
        · as_aux_lemma =>
            intro vals a W hS hL
            have e9 : a.tmps.getD 9 undef = .pointer (some ⟨w3.heap.size, 0, none⟩) := hL.1
            clear hL
            have kb : Bk W (w3.heap.size) 25 #[.int .i64 ((b + m) % 65536), .int .i64 ((d + k) % 256)] := hS.bk 0 rfl
            have f0 := kb.cell 0
            have f1 := kb.cell 1
            clear kb
            go_simp
            exact ⟨⟨fun d hd => by injection hd with hd; subst hd; rfl, fun h => by cases h⟩, hS, trivial⟩
        · as_aux_lemma =>
            intro vals a W hS hL
            have e40 : a.tmps.getD 40 undef = .agg #[.int .i64 r, .int .i64 c, .bool false, .bool false] := hL.1
            have e41 : a.tmps.getD 41 undef = .agg #[.int .i64 ((b + m) % 65536), .int .i64 ((d + k) % 256)] := hL.2.1
            clear hL
            go_simp
            refine (H4.out W).mono ?_
            rintro e W' ⟨rfl, hb⟩
            exact ⟨_, rfl, ⟨fun d hd => by injection hd with hd; subst hd; rfl, fun h => by cases h⟩, hS.call hb, trivial⟩
        · as_aux_lemma =>
            intro a W vals hv hn hS hL hp hd
            clear hL
            go_simp
            exact ⟨hS.new0 hv hn, trivial, trivial⟩
        · as_aux_lemma =>
            intro a W vals hv hn hS hL hp hd
            clear hL
            go_simp
            exact ⟨hS.new1 hv hn, trivial, trivial⟩
        · as_aux_lemma =>
            intro a W vals hv hn hS hL hp hd
            have e39 : a.tmps.getD 39 undef = .agg #[.int .i64 p, .int .i64 q] := hL.1
            clear hL
            obtain ⟨g, hg, kz, hnx⟩ := hS.at2 hv hn hp.1 hd.1
            rw [Array.getD_eq_getD_getElem?] at hg e39
            have z0 := kz.frozen 0
            have z1 := kz.frozen 1
            have q0 := kz.cell 0
            have q1 := kz.cell 1
            clear kz hS
            go_simp
            exact ⟨hnx _, trivial, trivial⟩
        · as_aux_lemma =>
            intro a W vals hv hn hS hL hp hd
            have e42 : a.tmps.getD 42 undef = .agg #[.int .i64 p, .int .i64 q] := hL.1
            clear hL
            obtain ⟨g, hg, kz, hnx⟩ := hS.at3 hv hn hp.1 hd.1 hd.2.1
            rw [Array.getD_eq_getD_getElem?] at hg e42
            have z0 := kz.frozen 0
            have z1 := kz.frozen 1
            have q0 := kz.cell 0
            have q1 := kz.cell 1
            clear kz hS
            go_simp
            exact ⟨hnx _, trivial, trivial⟩
      · intro a W' vals hd hsz hT hF hv hall hP hS
        obtain ⟨g0, g1, hv0, hv1, hg0, hg1, hg01, hn0, hn1, hB⟩ := hS.fin hv hall
        simp only [List.mem_cons, List.not_mem_nil, or_false, forall_eq_or_imp, forall_eq] at hn0
        have e10 : a.tmps.getD 10 undef = .pointer (some ⟨g0, 0, none⟩) := (hP 0 6 _ 10 _ rfl rfl rfl hv0).symm
        simp only [List.mem_cons, List.not_mem_nil, or_false, forall_eq_or_imp, forall_eq] at hn1
        have e11 : a.tmps.getD 11 undef = .pointer (some ⟨g1, 0, none⟩) := (hP 1 7 _ 11 _ rfl rfl rfl hv1).symm
        have e2 : a.tmps.getD 2 undef = .int .u16 m := hT 2 (by simp)
        have e3 : a.tmps.getD 3 undef = .int .u8 k := hT 3 (by simp)
        have e4 : a.tmps.getD 4 undef = .pointer (some ⟨w.heap.size, 0, none⟩) := hT 4 (by simp)
        have e5 : a.tmps.getD 5 undef = .pointer (some ⟨w.heap.size + 1, 0, none⟩) := hT 5 (by simp)
        have e9 : a.tmps.getD 9 undef = .pointer (some ⟨w3.heap.size, 0, none⟩) := hT 9 (by simp)
        clear hT hF hP hS hall hv0 hv1
        rw [act_lit 70 a hd hsz]
        simp only [List.range, List.range.loop, List.map, e2, e3, e4, e5, e9, e10, e11]
        clear hd hsz e2 e3 e4 e5 e9 e10 e11
        have HB3 := Lib.hid hB
        clear HB2 hB H3 H4
        go_wp2_with fail
        refine wp_region_phases (S := (fun vals W => SX w 2 ([] : List Stp) vals ([(g1, 25, #[.int .i64 p, .int .i64 q]), (g0, 25, #[.int .i64 p, .int .i64 q]), (w3.heap.size, 25, #[.int .i64 ((b + m) % 65536), .int .i64 ((d + k) % 256)]), (w.heap.size + 1, 25, #[.int .i64 b, .int .i64 d]), (w.heap.size, 23, #[.int .i64 r, .int .i64 c, .bool false, .bool false])] : List (Nat × TypeId × Array Value)) W)) (E := (fun _ _ => True)) [] [(2, Is (.int .u16 m)), (3, Is (.int .u8 k)), (4, Is (.pointer (some ⟨w.heap.size, 0, none⟩))), (5, Is (.pointer (some ⟨w.heap.size + 1, 0, none⟩))), (9, Is (.pointer (some ⟨w3.heap.size, 0, none⟩))), (10, Is (.pointer (some ⟨g0, 0, none⟩))), (11, Is (.pointer (some ⟨g1, 0, none⟩)))] [(43, Is (.pointer (some ⟨g0, 0, none⟩))), (44, Is (.int .i64 p)), (45, Is (.pointer (some ⟨g0, 1, none⟩))), (46, Is (.int .i64 q)), (12, Is (.int .i64 p)), (13, Is (.int .i64 q))]
          [.op [10] none, .op [43] none, .op [10] none, .op [45] none, .op [44] none, .op [46] none] (by as_aux_lemma => kernel_rfl) ?_ ?_ ?_ ?_ ?_ ⟨stable_is _ _, stable_is _ _, stable_is _ _, stable_is _ _, stable_is _ _, stable_is _ _, stable_is _ _, stable_is _ _, stable_is _ _, stable_is _ _, stable_is _ _, stable_is _ _, stable_is _ _, trivial⟩ ?_ (HB3.out.drew) ?_ ?_
        · as_aux_lemma => kernel_rfl
        · as_aux_lemma => kernel_rfl
        · as_aux_lemma => kernel_rfl
        · as_aux_lemma => kernel_rfl
        · as_aux_lemma => kernel_rfl
        · exact ⟨rfl, rfl, rfl, rfl, rfl, rfl, rfl, trivial⟩
        · refine ⟨?_, ?_, ?_, ?_, ?_, ?_, trivial⟩
          · as_aux_lemma =>
              intro vals a W hS hL
              have e10 : a.tmps.getD 10 undef = .pointer (some ⟨g0, 0, none⟩) := hL.1
              clear hL
              go_simp
              exact ⟨⟨fun d hd => by injection hd with hd; subst hd; rfl, fun h => by cases h⟩, hS, trivial⟩
          · as_aux_lemma =>
              intro vals a W hS hL
              have e43 : a.tmps.getD 43 undef = .pointer (some ⟨g0, 0, none⟩) := hL.1
              clear hL
              have kb : Bk W (g0) 25 #[.int .i64 p, .int .i64 q] := hS.bk 1 rfl rfl
              have f0 := kb.cell 0
              clear kb
              go_simp
              exact ⟨⟨fun d hd => by injection hd with hd; subst hd; rfl, fun h => by cases h⟩, hS, trivial⟩
          · as_aux_lemma =>
              intro vals a W hS hL
              have e10 : a.tmps.getD 10 undef = .pointer (some ⟨g0, 0, none⟩) := hL.1
              clear hL
              go_simp
              exact ⟨⟨fun d hd => by injection hd with hd; subst hd; rfl, fun h => by cases h⟩, hS, trivial⟩
          · as_aux_lemma =>
              intro vals a W hS hL
              have e45 : a.tmps.getD 45 undef = .pointer (some ⟨g0, 1, none⟩) := hL.1
              clear hL
              have kb : Bk W (g0) 25 #[.int .i64 p, .int .i64 q] := hS.bk 1 rfl rfl
              have f1 := kb.cell 1
              clear kb
              go_simp
              exact ⟨⟨fun d hd => by injection hd with hd; subst hd; rfl, fun h => by cases h⟩, hS, trivial⟩
          · as_aux_lemma =>
              intro vals a W hS hL
              have e44 : a.tmps.getD 44 undef = .int .i64 p := hL.1
              clear hL
              go_simp
              exact ⟨⟨fun d hd => by injection hd with hd; subst hd; rfl, fun h => by cases h⟩, hS, trivial⟩
          · as_aux_lemma =>
              intro vals a W hS hL
              have e46 : a.tmps.getD 46 undef = .int .i64 q := hL.1
              clear hL
              go_simp
              exact ⟨⟨fun d hd => by injection hd with hd; subst hd; rfl, fun h => by cases h⟩, hS, trivial⟩
        · intro a W' vals hd hsz hT hF hv hP hS
          obtain rfl : vals = [] := List.eq_nil_of_length_eq_zero hv
          have hS2 : SX w 2 ([] : List Stp) [] ([(g1, 25, #[.int .i64 p, .int .i64 q]), (g0, 25, #[.int .i64 p, .int .i64 q]), (w3.heap.size, 25, #[.int .i64 ((b + m) % 65536), .int .i64 ((d + k) % 256)]), (w.heap.size + 1, 25, #[.int .i64 b, .int .i64 d]), (w.heap.size, 23, #[.int .i64 r, .int .i64 c, .bool false, .bool false])] : List (Nat × TypeId × Array Value)) W' := hS
          clear hS
          have hB0 := hS2
          have hB : SB w 2 ([(g1, 25, #[.int .i64 p, .int .i64 q]), (g0, 25, #[.int .i64 p, .int .i64 q]), (w3.heap.size, 25, #[.int .i64 ((b + m) % 65536), .int .i64 ((d + k) % 256)]), (w.heap.size + 1, 25, #[.int .i64 b, .int .i64 d]), (w.heap.size, 23, #[.int .i64 r, .int .i64 c, .bool false, .bool false])] : List (Nat × TypeId × Array Value)) W' := hB0
          clear hB0
          have e2 : a.tmps.getD 2 undef = .int .u16 m := hT 2 (by simp)
          have e3 : a.tmps.getD 3 undef = .int .u8 k := hT 3 (by simp)
          have e4 : a.tmps.getD 4 undef = .pointer (some ⟨w.heap.size, 0, none⟩) := hT 4 (by simp)
          have e5 : a.tmps.getD 5 undef = .pointer (some ⟨w.heap.size + 1, 0, none⟩) := hT 5 (by simp)
          have e9 : a.tmps.getD 9 undef = .pointer (some ⟨w3.heap.size, 0, none⟩) := hT 9 (by simp)
          have e10 : a.tmps.getD 10 undef = .pointer (some ⟨g0, 0, none⟩) := hT 10 (by simp)
          have e11 : a.tmps.getD 11 undef = .pointer (some ⟨g1, 0, none⟩) := hT 11 (by simp)
          have e12 : a.tmps.getD 12 undef = .int .i64 p := hT 12 (by simp)
          have e13 : a.tmps.getD 13 undef = .int .i64 q := hT 13 (by simp)
          clear hT hF hP
          rw [act_lit 70 a hd hsz]
          simp only [List.range, List.range.loop, List.map, e2, e3, e4, e5, e9, e10, e11, e12, e13]
          clear hd hsz e2 e3 e4 e5 e9 e10 e11 e12 e13
          have HB4 := Lib.hid hB
          clear HB3 hB
          have kr := HB4.out.box (i := 4) rfl
          have cr0 := kr.cell 0
          have cr1 := kr.cell 1
          have cr2 := kr.cell 2
          have cr3 := kr.cell 3
          clear kr
          have ky := HB4.out.box (i := 0) rfl
          have cy0 := ky.cell 0
          have cy1 := ky.cell 1
          clear ky
          go_wp2_with fail
          refine (H5.out _).mono ?_
          rintro e w5 ⟨rfl, hb⟩
          have hbel := (HB4.out.call hb).bel
          clear hb HB4 H5 cr0 cr1 cr2 cr3 cy0 cy1
          go_wp2
          go_ret
          exact ⟨rfl, hbel⟩
    · rw [hck] at H2
      clear hck
      go_enter Tryd.func6, Tryd.ntmps6
      go_wp2_with fail
      refine (HK.out _ HB.out.bel).mono ?_
      rintro e w1 ⟨rfl, hb⟩
      have hB := HB.out.call hb
      clear hb HB
      have HB := Lib.hid hB
      clear hB
      have kb := HB.out.box (i := 0) rfl
      have cb0 := kb.cell 0
      have cb1 := kb.cell 1
      clear kb
      go_wp2_with fail
      refine (H1.out _).mono ?_
      rintro e w2 ⟨rfl, hb⟩
      have hB := HB.out.call hb
      clear hb HB
      have HB := Lib.hid hB
      clear hB
      clear cb0 cb1
      have kr := HB.out.box (i := 1) rfl
      have cr0 := kr.cell 0
      have cr1 := kr.cell 1
      have cr2 := kr.cell 2
      have cr3 := kr.cell 3
      clear kr
      go_wp2_with fail
      refine (H2.out _).mono ?_
      rintro e w3 ⟨rfl, hb⟩
      have hB := HB.out.call hb
      clear hb HB
      have HB := Lib.hid hB
      clear hB
      clear cr0 cr1 cr2 cr3 HK H1 H2
      have hbel := HB.out.bel
      go_wp2
      go_ret
      exact ⟨rfl, hbel⟩

theorem refRound_any {w : World} (HV : Tens w) (r c b d m k : Int) (x y : Bool) (m0 : 0 ≤ m) (m1 : m ≤ 65535) (k0 : 0 ≤ k) (k1 : k ≤ 255) :
    Calls Tryd.prog 6 #[.agg #[.int .i64 r, .int .i64 c, .bool x, .bool y], .agg #[.int .i64 b, .int .i64 d], .int .u16 m, .int .u8 k] w fun e w' => e = .returned (.bool true) ∧ Below w.heap.size w w' := by
  cases x <;> cases y
  · exact round_false_false HV r c b d m k m0 m1 k0 k1
  · exact round_false_true HV r c b d m k m0 m1 k0 k1
  · exact round_true_false HV r c b d m k m0 m1 k0 k1
  · exact round_true_true HV r c b d m k m0 m1 k0 k1
end Go.Proofs.YtgjijjdpkmdcgaaDoor
