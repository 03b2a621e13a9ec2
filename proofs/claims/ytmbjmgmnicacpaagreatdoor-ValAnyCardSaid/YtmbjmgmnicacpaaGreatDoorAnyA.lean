/- cashbooklaw9.ValAny, where a text is too long or a value may not be, by its calls' contracts. Condition: these. -/
import Derived.Test.YtmbjmgmnicacpaaGreatDoorKnown9
import Derived.Test.YtmbjmgmnicacpaaGreatDoorR3
import Derived.Test.YtmbjmgmnicacpaaGreatDoorBox22
namespace Go.Proofs.YtmbjmgmnicacpaaGreatDoor
open Go.RowKit

set_option maxRecDepth 20000 in
set_option maxHeartbeats 4000000 in
theorem any_long1 {w : World} {k1 m1 s1 : Int} {t1 : ByteArray} {b1 : Bool} {e1 : Int} {k2 m2 s2 : Int} {t2 : ByteArray} {b2 : Bool} {e2 : Int}  (h1 : 3000 < t1.size) :
    Calls Tryz.prog 3 #[.agg #[.int .i64 k1, .int .i64 m1, .int .i64 s1, .string t1, .bool b1, .int .i64 e1], .agg #[.int .i64 k2, .int .i64 m2, .int .i64 s2, .string t2, .bool b2, .int .i64 e2]] w fun x w' => x = .returned (.bool true) ∧ Below w.heap.size w w' := by
  have HN := Lib.hid (fun W : World => known9_any (w := W))
  have h1' : (3000 : Int) < ((t1.size : Nat) : Int) := by omega
  clear h1
  have HB := Lib.hid ((sb1 w 25 #[.int .i64 k1, .int .i64 m1, .int .i64 s1, .string t1, .bool b1, .int .i64 e1]).push (by simp) 25 #[.int .i64 k2, .int .i64 m2, .int .i64 s2, .string t2, .bool b2, .int .i64 e2])
  go_enter Tryz.func3, Tryz.ntmps3
  go_wp2_with fail
  refine (HN.out _).mono ?_
  rintro x w1 ⟨rfl, hb⟩
  have hB := HB.out.call hb
  clear hb HB
  have HB : Hid (SB w 2 ([(w.heap.size + 1, 25, #[.int .i64 k2, .int .i64 m2, .int .i64 s2, .string t2, .bool b2, .int .i64 e2]), (w.heap.size, 25, #[.int .i64 k1, .int .i64 m1, .int .i64 s1, .string t1, .bool b1, .int .i64 e1])] : List (Nat × TypeId × Array Value)) w1) := Lib.hid (by simpa using hB)
  clear hB
  have kf0_ := HB.out.box (i := 1) rfl
  have cf0_0 := kf0_.cell 0
  have cf0_1 := kf0_.cell 1
  have cf0_2 := kf0_.cell 2
  have cf0_3 := kf0_.cell 3
  have cf0_4 := kf0_.cell 4
  have cf0_5 := kf0_.cell 5
  clear kf0_
  have kf1_ := HB.out.box (i := 0) rfl
  have cf1_0 := kf1_.cell 0
  have cf1_1 := kf1_.cell 1
  have cf1_2 := kf1_.cell 2
  have cf1_3 := kf1_.cell 3
  have cf1_4 := kf1_.cell 4
  have cf1_5 := kf1_.cell 5
  clear kf1_
  have hbel := HB.out.bel
  clear HB
  go_wp2
  go_ret
  exact ⟨rfl, hbel⟩
set_option maxRecDepth 20000 in
set_option maxHeartbeats 4000000 in
theorem any_long2 {w : World} {k1 m1 s1 : Int} {t1 : ByteArray} {b1 : Bool} {e1 : Int} {k2 m2 s2 : Int} {t2 : ByteArray} {b2 : Bool} {e2 : Int}  (h1 : t1.size ≤ 3000) (h2 : 3000 < t2.size) :
    Calls Tryz.prog 3 #[.agg #[.int .i64 k1, .int .i64 m1, .int .i64 s1, .string t1, .bool b1, .int .i64 e1], .agg #[.int .i64 k2, .int .i64 m2, .int .i64 s2, .string t2, .bool b2, .int .i64 e2]] w fun x w' => x = .returned (.bool true) ∧ Below w.heap.size w w' := by
  have HN := Lib.hid (fun W : World => known9_any (w := W))
  have h1' : ¬ (3000 : Int) < ((t1.size : Nat) : Int) := by omega
  have h2' : (3000 : Int) < ((t2.size : Nat) : Int) := by omega
  clear h1 h2
  have HB := Lib.hid ((sb1 w 25 #[.int .i64 k1, .int .i64 m1, .int .i64 s1, .string t1, .bool b1, .int .i64 e1]).push (by simp) 25 #[.int .i64 k2, .int .i64 m2, .int .i64 s2, .string t2, .bool b2, .int .i64 e2])
  go_enter Tryz.func3, Tryz.ntmps3
  go_wp2_with fail
  refine (HN.out _).mono ?_
  rintro x w1 ⟨rfl, hb⟩
  have hB := HB.out.call hb
  clear hb HB
  have HB : Hid (SB w 2 ([(w.heap.size + 1, 25, #[.int .i64 k2, .int .i64 m2, .int .i64 s2, .string t2, .bool b2, .int .i64 e2]), (w.heap.size, 25, #[.int .i64 k1, .int .i64 m1, .int .i64 s1, .string t1, .bool b1, .int .i64 e1])] : List (Nat × TypeId × Array Value)) w1) := Lib.hid (by simpa using hB)
  clear hB
  have kf0_ := HB.out.box (i := 1) rfl
  have cf0_0 := kf0_.cell 0
  have cf0_1 := kf0_.cell 1
  have cf0_2 := kf0_.cell 2
  have cf0_3 := kf0_.cell 3
  have cf0_4 := kf0_.cell 4
  have cf0_5 := kf0_.cell 5
  clear kf0_
  have kf1_ := HB.out.box (i := 0) rfl
  have cf1_0 := kf1_.cell 0
  have cf1_1 := kf1_.cell 1
  have cf1_2 := kf1_.cell 2
  have cf1_3 := kf1_.cell 3
  have cf1_4 := kf1_.cell 4
  have cf1_5 := kf1_.cell 5
  clear kf1_
  have hbel := HB.out.bel
  clear HB
  go_wp2
  go_ret
  exact ⟨rfl, hbel⟩
set_option maxRecDepth 20000 in
set_option maxHeartbeats 4000000 in
theorem any_bad1 {w : World} {k1 m1 s1 : Int} {t1 : ByteArray} {b1 : Bool} {e1 : Int} {k2 m2 s2 : Int} {t2 : ByteArray} {b2 : Bool} {e2 : Int} {E : Bool} {E1 : Int}  (h1 : t1.size ≤ 3000) (h2 : t2.size ≤ 3000) (hE : sameB k1 m1 s1 t1 b1 e1 k2 m2 s2 t2 b2 e2 = E) (hE1 : ¬ E1 = 0) (CK : ∀ W : World, Below w.heap.size w W → Calls Tryz.prog 6 #[.agg #[.int .i64 k1, .int .i64 m1, .int .i64 s1, .string t1, .bool b1, .int .i64 e1]] W fun x w' => x = .returned (.int .i64 E1) ∧ Below W.heap.size W w') (BK1 : ∀ W : World, Calls Tryz.prog 7 #[.agg #[.int .i64 k1, .int .i64 m1, .int .i64 s1, .string t1, .bool b1, .int .i64 e1]] W fun x w' => x = .returned (.int .i64 E1) ∧ Below W.heap.size W w') (SM : ∀ W : World, Calls Tryz.prog 8 #[.agg #[.int .i64 k1, .int .i64 m1, .int .i64 s1, .string t1, .bool b1, .int .i64 e1], .agg #[.int .i64 k2, .int .i64 m2, .int .i64 s2, .string t2, .bool b2, .int .i64 e2]] W fun x w' => x = .returned (.bool E) ∧ Below W.heap.size W w') :
    Calls Tryz.prog 3 #[.agg #[.int .i64 k1, .int .i64 m1, .int .i64 s1, .string t1, .bool b1, .int .i64 e1], .agg #[.int .i64 k2, .int .i64 m2, .int .i64 s2, .string t2, .bool b2, .int .i64 e2]] w fun x w' => x = .returned (.bool true) ∧ Below w.heap.size w w' := by
  have HN := Lib.hid (fun W : World => known9_any (w := W))
  have HE := Lib.hid hE
  clear hE
  have hE1' : (E1 != 0) = true := bne_iff_ne.2 hE1
  have HCK := Lib.hid CK
  clear CK
  have HBK1 := Lib.hid BK1
  clear BK1
  have HSM := Lib.hid SM
  clear SM
  have h1' : ¬ (3000 : Int) < ((t1.size : Nat) : Int) := by omega
  have h2' : ¬ (3000 : Int) < ((t2.size : Nat) : Int) := by omega
  clear h1 h2
  have HO1 := Lib.hid (fun W : World => of9_any (w := W) k1 m1 s1 t1 b1 e1)
  have HO2 := Lib.hid (fun W : World => of9_any (w := W) k2 m2 s2 t2 b2 e2)
  have HB := Lib.hid ((sb1 w 25 #[.int .i64 k1, .int .i64 m1, .int .i64 s1, .string t1, .bool b1, .int .i64 e1]).push (by simp) 25 #[.int .i64 k2, .int .i64 m2, .int .i64 s2, .string t2, .bool b2, .int .i64 e2])
  go_enter Tryz.func3, Tryz.ntmps3
  go_wp2_with fail
  refine (HN.out _).mono ?_
  rintro x w1 ⟨rfl, hb⟩
  have hB := HB.out.call hb
  clear hb HB
  have HB : Hid (SB w 2 ([(w.heap.size + 1, 25, #[.int .i64 k2, .int .i64 m2, .int .i64 s2, .string t2, .bool b2, .int .i64 e2]), (w.heap.size, 25, #[.int .i64 k1, .int .i64 m1, .int .i64 s1, .string t1, .bool b1, .int .i64 e1])] : List (Nat × TypeId × Array Value)) w1) := Lib.hid (by simpa using hB)
  clear hB
  clear HN
  have kf0_ := HB.out.box (i := 1) rfl
  have cf0_0 := kf0_.cell 0
  have cf0_1 := kf0_.cell 1
  have cf0_2 := kf0_.cell 2
  have cf0_3 := kf0_.cell 3
  have cf0_4 := kf0_.cell 4
  have cf0_5 := kf0_.cell 5
  clear kf0_
  have kf1_ := HB.out.box (i := 0) rfl
  have cf1_0 := kf1_.cell 0
  have cf1_1 := kf1_.cell 1
  have cf1_2 := kf1_.cell 2
  have cf1_3 := kf1_.cell 3
  have cf1_4 := kf1_.cell 4
  have cf1_5 := kf1_.cell 5
  clear kf1_
  go_wp2_with fail
  clear cf0_0 cf0_1 cf0_2 cf0_3 cf0_4 cf0_5 cf1_0 cf1_1 cf1_2 cf1_3 cf1_4 cf1_5
  refine wp_region_parts (S := S22 w 2 ([(w.heap.size + 1, 25, #[.int .i64 k2, .int .i64 m2, .int .i64 s2, .string t2, .bool b2, .int .i64 e2]), (w.heap.size, 25, #[.int .i64 k1, .int .i64 m1, .int .i64 s1, .string t1, .bool b1, .int .i64 e1])] : List (Nat × TypeId × Array Value)) 29 #[.int .i64 0, .int .i64 0, .int .i64 0, .string ⟨#[]⟩, .bool false, .int .i64 0] #[.int .i64 k1, .int .i64 m1, .int .i64 s1, .string t1, .bool b1, .int .i64 e1] 29 #[.int .i64 0, .int .i64 0, .int .i64 0, .string ⟨#[]⟩, .bool false, .int .i64 0] #[.int .i64 k2, .int .i64 m2, .int .i64 s2, .string t2, .bool b2, .int .i64 e2]) (E := fun _ _ => True) [4, 5, 6, 7] [(2, Is (.pointer (some ⟨w.heap.size, 0, none⟩))), (3, Is (.pointer (some ⟨w.heap.size + 1, 0, none⟩)))] [(31, Is (.agg #[.int .i64 k1, .int .i64 m1, .int .i64 s1, .string t1, .bool b1, .int .i64 e1])), (32, Is (.agg #[.int .i64 k1, .int .i64 m1, .int .i64 s1, .string t1, .bool b1, .int .i64 e1])), (33, Is (.agg #[.int .i64 k2, .int .i64 m2, .int .i64 s2, .string t2, .bool b2, .int .i64 e2])), (34, Is (.agg #[.int .i64 k2, .int .i64 m2, .int .i64 s2, .string t2, .bool b2, .int .i64 e2]))]
    [.op [2] none, .op [31] none, .op [3] none, .op [33] none, .phase 0 [] [] [], .phase 1 [] [] [], .phase 2 [32] [(0, 5)] [1], .phase 3 [34] [(1, 6)] [2, 0]] (by as_aux_lemma => kernel_rfl) ?_ ?_ ?_ ?_ ?_ ⟨stable_is _ _, stable_is _ _, stable_is _ _, stable_is _ _, stable_is _ _, stable_is _ _, trivial⟩ ?_ (HB.out.drew) ?_ ?_
  · as_aux_lemma => kernel_rfl
  · as_aux_lemma => kernel_rfl
  · as_aux_lemma => kernel_rfl
  · as_aux_lemma => kernel_rfl
  · as_aux_lemma => kernel_rfl
  · exact ⟨rfl, rfl, trivial⟩
  · refine ⟨?_, ?_, ?_, ?_, ?_, ?_, ?_, ?_, trivial⟩
    · as_aux_lemma =>
        intro vals a W hS hL
        have e2 : a.tmps.getD 2 undef = .pointer (some ⟨w.heap.size, 0, none⟩) := hL.1
        clear hL
        have kb : Bk W (w.heap.size) 25 #[.int .i64 k1, .int .i64 m1, .int .i64 s1, .string t1, .bool b1, .int .i64 e1] := hS.bk 1 rfl
        have f0 := kb.cell 0
        have f1 := kb.cell 1
        have f2 := kb.cell 2
        have f3 := kb.cell 3
        have f4 := kb.cell 4
        have f5 := kb.cell 5
        clear kb
        go_simp
        exact ⟨⟨fun d hd => by injection hd with hd; subst hd; rfl, fun h => by cases h⟩, hS, trivial⟩
    · as_aux_lemma =>
        intro vals a W hS hL
        have e31 : a.tmps.getD 31 undef = .agg #[.int .i64 k1, .int .i64 m1, .int .i64 s1, .string t1, .bool b1, .int .i64 e1] := hL.1
        clear hL
        go_simp
        refine (HO1.out W).mono ?_
        rintro e W' ⟨rfl, hb⟩
        exact ⟨_, rfl, ⟨fun d hd => by injection hd with hd; subst hd; rfl, fun h => by cases h⟩, hS.call hb, trivial⟩
    · as_aux_lemma =>
        intro vals a W hS hL
        have e3 : a.tmps.getD 3 undef = .pointer (some ⟨w.heap.size + 1, 0, none⟩) := hL.1
        clear hL
        have kb : Bk W (w.heap.size + 1) 25 #[.int .i64 k2, .int .i64 m2, .int .i64 s2, .string t2, .bool b2, .int .i64 e2] := hS.bk 0 rfl
        have f0 := kb.cell 0
        have f1 := kb.cell 1
        have f2 := kb.cell 2
        have f3 := kb.cell 3
        have f4 := kb.cell 4
        have f5 := kb.cell 5
        clear kb
        go_simp
        exact ⟨⟨fun d hd => by injection hd with hd; subst hd; rfl, fun h => by cases h⟩, hS, trivial⟩
    · as_aux_lemma =>
        intro vals a W hS hL
        have e33 : a.tmps.getD 33 undef = .agg #[.int .i64 k2, .int .i64 m2, .int .i64 s2, .string t2, .bool b2, .int .i64 e2] := hL.1
        clear hL
        go_simp
        refine (HO2.out W).mono ?_
        rintro e W' ⟨rfl, hb⟩
        exact ⟨_, rfl, ⟨fun d hd => by injection hd with hd; subst hd; rfl, fun h => by cases h⟩, hS.call hb, trivial⟩
    · as_aux_lemma =>
        intro a W vals hv hn hS hL hp hd
        clear hL
        go_simp
        exact ⟨hS.new0 hv hn, trivial, trivial⟩
    · as_aux_lemma =>
        intro a W vals hv hn hS hL hp hd
        clear hL
        go_simp
        exact ⟨hS.new1 hv hn, trivial, trivial⟩
    · as_aux_lemma =>
        intro a W vals hv hn hS hL hp hd
        have e32 : a.tmps.getD 32 undef = .agg #[.int .i64 k1, .int .i64 m1, .int .i64 s1, .string t1, .bool b1, .int .i64 e1] := hL.1
        clear hL
        obtain ⟨g, hg, kz, hnx⟩ := hS.at2 hv hn hp.1 hd.1
        rw [Array.getD_eq_getD_getElem?] at hg e32
        have z0 := kz.frozen 0
        have z1 := kz.frozen 1
        have z2 := kz.frozen 2
        have z3 := kz.frozen 3
        have z4 := kz.frozen 4
        have z5 := kz.frozen 5
        have q0 := kz.cell 0
        have q1 := kz.cell 1
        have q2 := kz.cell 2
        have q3 := kz.cell 3
        have q4 := kz.cell 4
        have q5 := kz.cell 5
        clear kz hS
        go_simp
        exact ⟨hnx _, trivial, trivial⟩
    · as_aux_lemma =>
        intro a W vals hv hn hS hL hp hd
        have e34 : a.tmps.getD 34 undef = .agg #[.int .i64 k2, .int .i64 m2, .int .i64 s2, .string t2, .bool b2, .int .i64 e2] := hL.1
        clear hL
        obtain ⟨g, hg, kz, hnx⟩ := hS.at3 hv hn hp.1 hd.1 hd.2.1
        rw [Array.getD_eq_getD_getElem?] at hg e34
        have z0 := kz.frozen 0
        have z1 := kz.frozen 1
        have z2 := kz.frozen 2
        have z3 := kz.frozen 3
        have z4 := kz.frozen 4
        have z5 := kz.frozen 5
        have q0 := kz.cell 0
        have q1 := kz.cell 1
        have q2 := kz.cell 2
        have q3 := kz.cell 3
        have q4 := kz.cell 4
        have q5 := kz.cell 5
        clear kz hS
        go_simp
        exact ⟨hnx _, trivial, trivial⟩
  · intro a W' vals hd hsz hT hF hv hall hP hS
    obtain ⟨g0, g1, hv0, hv1, hg0, hg1, hg01, hn0, hn1, hB⟩ := hS.fin hv hall
    simp only [List.mem_cons, List.not_mem_nil, or_false, forall_eq_or_imp, forall_eq] at hn0
    have e5 : a.tmps.getD 5 undef = .pointer (some ⟨g0, 0, none⟩) := (hP 0 4 _ 5 _ rfl rfl rfl hv0).symm
    simp only [List.mem_cons, List.not_mem_nil, or_false, forall_eq_or_imp, forall_eq] at hn1
    have e6 : a.tmps.getD 6 undef = .pointer (some ⟨g1, 0, none⟩) := (hP 1 5 _ 6 _ rfl rfl rfl hv1).symm
    have e2 : a.tmps.getD 2 undef = .pointer (some ⟨w.heap.size, 0, none⟩) := hT 2 (by simp)
    have e3 : a.tmps.getD 3 undef = .pointer (some ⟨w.heap.size + 1, 0, none⟩) := hT 3 (by simp)
    clear hT hF hP hS hall hv0 hv1
    rw [act_lit 150 a hd hsz]
    simp only [List.range, List.range.loop, List.map, e2, e3, e5, e6]
    clear hd hsz e2 e3 e5 e6
    clear HB
    have HB := Lib.hid hB
    clear hB
    go_wp2_with fail
    refine wp_region_phases (S := (fun vals W => SX w 2 ([] : List Stp) vals ([(g1, 29, #[.int .i64 k2, .int .i64 m2, .int .i64 s2, .string t2, .bool b2, .int .i64 e2]), (g0, 29, #[.int .i64 k1, .int .i64 m1, .int .i64 s1, .string t1, .bool b1, .int .i64 e1]), (w.heap.size + 1, 25, #[.int .i64 k2, .int .i64 m2, .int .i64 s2, .string t2, .bool b2, .int .i64 e2]), (w.heap.size, 25, #[.int .i64 k1, .int .i64 m1, .int .i64 s1, .string t1, .bool b1, .int .i64 e1])] : List (Nat × TypeId × Array Value)) W)) (E := (fun _ _ => True)) [] [(2, Is (.pointer (some ⟨w.heap.size, 0, none⟩))), (3, Is (.pointer (some ⟨w.heap.size + 1, 0, none⟩))), (5, Is (.pointer (some ⟨g0, 0, none⟩))), (6, Is (.pointer (some ⟨g1, 0, none⟩)))] [(35, Is (.agg #[.int .i64 k1, .int .i64 m1, .int .i64 s1, .string t1, .bool b1, .int .i64 e1])), (36, Is (.int .i64 E1)), (37, Is (.agg #[.int .i64 k1, .int .i64 m1, .int .i64 s1, .string t1, .bool b1, .int .i64 e1])), (38, Is (.int .i64 E1)), (39, Is (.bool false)), (40, Is (.bool false)), (41, Is (.agg #[.int .i64 k1, .int .i64 m1, .int .i64 s1, .string t1, .bool b1, .int .i64 e1])), (42, Is (.agg #[.int .i64 k2, .int .i64 m2, .int .i64 s2, .string t2, .bool b2, .int .i64 e2])), (43, Is (.bool E)), (44, Is (.agg #[.int .i64 k1, .int .i64 m1, .int .i64 s1, .string t1, .bool b1, .int .i64 e1])), (45, Is (.agg #[.int .i64 k2, .int .i64 m2, .int .i64 s2, .string t2, .bool b2, .int .i64 e2])), (46, Is (.bool E)), (47, Is (.bool false)), (48, Is (.bool false))]
      [.op [2] none, .op [35] none, .op [5] none, .op [37] none, .op [36, 38] none, .op [39] none, .op [2, 40] (some (40, false)), .op [3, 40] (some (40, false)), .op [41, 42, 40] (some (40, false)), .op [5, 40] (some (40, false)), .op [6, 40] (some (40, false)), .op [44, 45, 40] (some (40, false)), .op [43, 46, 40] (some (40, false)), .op [40, 47] none] (by as_aux_lemma => kernel_rfl) ?_ ?_ ?_ ?_ ?_ ⟨stable_is _ _, stable_is _ _, stable_is _ _, stable_is _ _, stable_is _ _, stable_is _ _, stable_is _ _, stable_is _ _, stable_is _ _, stable_is _ _, stable_is _ _, stable_is _ _, stable_is _ _, stable_is _ _, stable_is _ _, stable_is _ _, stable_is _ _, stable_is _ _, trivial⟩ ?_ (HB.out.drew) ?_ ?_
    · as_aux_lemma => kernel_rfl
    · as_aux_lemma => kernel_rfl
    · as_aux_lemma => kernel_rfl
    · as_aux_lemma => kernel_rfl
    · as_aux_lemma => kernel_rfl
    · exact ⟨rfl, rfl, rfl, rfl, trivial⟩
    · refine ⟨?_, ?_, ?_, ?_, ?_, ?_, ?_, ?_, ?_, ?_, ?_, ?_, ?_, ?_, trivial⟩
      · as_aux_lemma =>
          intro vals a W hS hL
          have e2 : a.tmps.getD 2 undef = .pointer (some ⟨w.heap.size, 0, none⟩) := hL.1
          clear hL
          have kb : Bk W (w.heap.size) 25 #[.int .i64 k1, .int .i64 m1, .int .i64 s1, .string t1, .bool b1, .int .i64 e1] := hS.bk 3 rfl rfl
          have f0 := kb.cell 0
          have f1 := kb.cell 1
          have f2 := kb.cell 2
          have f3 := kb.cell 3
          have f4 := kb.cell 4
          have f5 := kb.cell 5
          clear kb
          go_simp
          exact ⟨⟨fun d hd => by injection hd with hd; subst hd; rfl, fun h => by cases h⟩, hS, trivial⟩
      · as_aux_lemma =>
          intro vals a W hS hL
          have e35 : a.tmps.getD 35 undef = .agg #[.int .i64 k1, .int .i64 m1, .int .i64 s1, .string t1, .bool b1, .int .i64 e1] := hL.1
          clear hL
          go_simp
          refine (HCK.out W hS.bel).mono ?_
          rintro e W' ⟨rfl, hb⟩
          exact ⟨_, rfl, ⟨fun d hd => by injection hd with hd; subst hd; rfl, fun h => by cases h⟩, hS.call hb, trivial⟩
      · as_aux_lemma =>
          intro vals a W hS hL
          have e5 : a.tmps.getD 5 undef = .pointer (some ⟨g0, 0, none⟩) := hL.1
          clear hL
          have kb : Bk W (g0) 29 #[.int .i64 k1, .int .i64 m1, .int .i64 s1, .string t1, .bool b1, .int .i64 e1] := hS.bk 1 rfl rfl
          have f0 := kb.cell 0
          have f1 := kb.cell 1
          have f2 := kb.cell 2
          have f3 := kb.cell 3
          have f4 := kb.cell 4
          have f5 := kb.cell 5
          clear kb
          go_simp
          exact ⟨⟨fun d hd => by injection hd with hd; subst hd; rfl, fun h => by cases h⟩, hS, trivial⟩
      · as_aux_lemma =>
          intro vals a W hS hL
          have e37 : a.tmps.getD 37 undef = .agg #[.int .i64 k1, .int .i64 m1, .int .i64 s1, .string t1, .bool b1, .int .i64 e1] := hL.1
          clear hL
          go_simp
          refine (HBK1.out W).mono ?_
          rintro e W' ⟨rfl, hb⟩
          exact ⟨_, rfl, ⟨fun d hd => by injection hd with hd; subst hd; rfl, fun h => by cases h⟩, hS.call hb, trivial⟩
      · as_aux_lemma =>
          intro vals a W hS hL
          have e36 : a.tmps.getD 36 undef = .int .i64 E1 := hL.1
          have e38 : a.tmps.getD 38 undef = .int .i64 E1 := hL.2.1
          clear hL
          go_simp
          exact ⟨⟨fun d hd => by injection hd with hd; subst hd; rfl, fun h => by cases h⟩, hS, trivial⟩
      · as_aux_lemma =>
          intro vals a W hS hL
          have e39 : a.tmps.getD 39 undef = .bool false := hL.1
          clear hL
          go_simp
          exact ⟨⟨fun d hd => by injection hd with hd; subst hd; rfl, fun h => by cases h⟩, hS, trivial⟩
      · as_aux_lemma =>
          intro vals a W hS hL
          have e2 : a.tmps.getD 2 undef = .pointer (some ⟨w.heap.size, 0, none⟩) := hL.1
          have e40 : a.tmps.getD 40 undef = .bool false := hL.2.1
          clear hL
          refine ⟨false, e40, ?_⟩
          rw [if_pos rfl]
          have kb : Bk W (w.heap.size) 25 #[.int .i64 k1, .int .i64 m1, .int .i64 s1, .string t1, .bool b1, .int .i64 e1] := hS.bk 3 rfl rfl
          have f0 := kb.cell 0
          have f1 := kb.cell 1
          have f2 := kb.cell 2
          have f3 := kb.cell 3
          have f4 := kb.cell 4
          have f5 := kb.cell 5
          clear kb
          go_simp
          exact ⟨⟨fun d hd => by injection hd with hd; subst hd; rfl, fun h => by cases h⟩, hS, trivial⟩
      · as_aux_lemma =>
          intro vals a W hS hL
          have e3 : a.tmps.getD 3 undef = .pointer (some ⟨w.heap.size + 1, 0, none⟩) := hL.1
          have e40 : a.tmps.getD 40 undef = .bool false := hL.2.1
          clear hL
          refine ⟨false, e40, ?_⟩
          rw [if_pos rfl]
          have kb : Bk W (w.heap.size + 1) 25 #[.int .i64 k2, .int .i64 m2, .int .i64 s2, .string t2, .bool b2, .int .i64 e2] := hS.bk 2 rfl rfl
          have f0 := kb.cell 0
          have f1 := kb.cell 1
          have f2 := kb.cell 2
          have f3 := kb.cell 3
          have f4 := kb.cell 4
          have f5 := kb.cell 5
          clear kb
          go_simp
          exact ⟨⟨fun d hd => by injection hd with hd; subst hd; rfl, fun h => by cases h⟩, hS, trivial⟩
      · as_aux_lemma =>
          intro vals a W hS hL
          have e41 : a.tmps.getD 41 undef = .agg #[.int .i64 k1, .int .i64 m1, .int .i64 s1, .string t1, .bool b1, .int .i64 e1] := hL.1
          have e42 : a.tmps.getD 42 undef = .agg #[.int .i64 k2, .int .i64 m2, .int .i64 s2, .string t2, .bool b2, .int .i64 e2] := hL.2.1
          have e40 : a.tmps.getD 40 undef = .bool false := hL.2.2.1
          clear hL
          refine ⟨false, e40, ?_⟩
          rw [if_pos rfl]
          go_simp
          refine (HSM.out W).mono ?_
          rintro e W' ⟨rfl, hb⟩
          exact ⟨_, rfl, ⟨fun d hd => by injection hd with hd; subst hd; rfl, fun h => by cases h⟩, hS.call hb, trivial⟩
      · as_aux_lemma =>
          intro vals a W hS hL
          have e5 : a.tmps.getD 5 undef = .pointer (some ⟨g0, 0, none⟩) := hL.1
          have e40 : a.tmps.getD 40 undef = .bool false := hL.2.1
          clear hL
          refine ⟨false, e40, ?_⟩
          rw [if_pos rfl]
          have kb : Bk W (g0) 29 #[.int .i64 k1, .int .i64 m1, .int .i64 s1, .string t1, .bool b1, .int .i64 e1] := hS.bk 1 rfl rfl
          have f0 := kb.cell 0
          have f1 := kb.cell 1
          have f2 := kb.cell 2
          have f3 := kb.cell 3
          have f4 := kb.cell 4
          have f5 := kb.cell 5
          clear kb
          go_simp
          exact ⟨⟨fun d hd => by injection hd with hd; subst hd; rfl, fun h => by cases h⟩, hS, trivial⟩
      · as_aux_lemma =>
          intro vals a W hS hL
          have e6 : a.tmps.getD 6 undef = .pointer (some ⟨g1, 0, none⟩) := hL.1
          have e40 : a.tmps.getD 40 undef = .bool false := hL.2.1
          clear hL
          refine ⟨false, e40, ?_⟩
          rw [if_pos rfl]
          have kb : Bk W (g1) 29 #[.int .i64 k2, .int .i64 m2, .int .i64 s2, .string t2, .bool b2, .int .i64 e2] := hS.bk 0 rfl rfl
          have f0 := kb.cell 0
          have f1 := kb.cell 1
          have f2 := kb.cell 2
          have f3 := kb.cell 3
          have f4 := kb.cell 4
          have f5 := kb.cell 5
          clear kb
          go_simp
          exact ⟨⟨fun d hd => by injection hd with hd; subst hd; rfl, fun h => by cases h⟩, hS, trivial⟩
      · as_aux_lemma =>
          intro vals a W hS hL
          have e44 : a.tmps.getD 44 undef = .agg #[.int .i64 k1, .int .i64 m1, .int .i64 s1, .string t1, .bool b1, .int .i64 e1] := hL.1
          have e45 : a.tmps.getD 45 undef = .agg #[.int .i64 k2, .int .i64 m2, .int .i64 s2, .string t2, .bool b2, .int .i64 e2] := hL.2.1
          have e40 : a.tmps.getD 40 undef = .bool false := hL.2.2.1
          clear hL
          refine ⟨false, e40, ?_⟩
          rw [if_pos rfl]
          rw [Array.getD_eq_getD_getElem?] at e44 e45
          go_simp
          repeat' split
          all_goals first | (have hE : E = true := by (rw [← HE.out]; exact decide_eq_true ⟨by assumption, by assumption, by assumption, toList_inj (by assumption), by simp_all, by assumption⟩)); (subst hE; exact ⟨⟨fun d hd => by injection hd with hd; subst hd; rfl, fun h => by cases h⟩, hS, trivial⟩) | (have hE : E = false := by (rw [← HE.out]; exact decide_eq_false (fun h => by obtain ⟨q1, q2, q3, q4, q5, q6⟩ := h; simp_all))); (subst hE; exact ⟨⟨fun d hd => by injection hd with hd; subst hd; rfl, fun h => by cases h⟩, hS, trivial⟩)
      · as_aux_lemma =>
          intro vals a W hS hL
          have e43 : a.tmps.getD 43 undef = .bool E := hL.1
          have e46 : a.tmps.getD 46 undef = .bool E := hL.2.1
          have e40 : a.tmps.getD 40 undef = .bool false := hL.2.2.1
          clear hL
          refine ⟨false, e40, ?_⟩
          rw [if_pos rfl]
          go_simp
          exact ⟨⟨fun d hd => by injection hd with hd; subst hd; rfl, fun h => by cases h⟩, hS, trivial⟩
      · as_aux_lemma =>
          intro vals a W hS hL
          have e40 : a.tmps.getD 40 undef = .bool false := hL.1
          have e47 : a.tmps.getD 47 undef = .bool false := hL.2.1
          clear hL
          go_simp
          exact ⟨⟨fun d hd => by injection hd with hd; subst hd; rfl, fun h => by cases h⟩, hS, trivial⟩
    · intro a W' vals hd hsz hT hF hv hP hS
      obtain rfl : vals = [] := List.eq_nil_of_length_eq_zero hv
      have hS2 : SX w 2 ([] : List Stp) [] ([(g1, 29, #[.int .i64 k2, .int .i64 m2, .int .i64 s2, .string t2, .bool b2, .int .i64 e2]), (g0, 29, #[.int .i64 k1, .int .i64 m1, .int .i64 s1, .string t1, .bool b1, .int .i64 e1]), (w.heap.size + 1, 25, #[.int .i64 k2, .int .i64 m2, .int .i64 s2, .string t2, .bool b2, .int .i64 e2]), (w.heap.size, 25, #[.int .i64 k1, .int .i64 m1, .int .i64 s1, .string t1, .bool b1, .int .i64 e1])] : List (Nat × TypeId × Array Value)) W' := hS
      clear hS
      have hB0 := hS2
      have hB : SB w 2 ([(g1, 29, #[.int .i64 k2, .int .i64 m2, .int .i64 s2, .string t2, .bool b2, .int .i64 e2]), (g0, 29, #[.int .i64 k1, .int .i64 m1, .int .i64 s1, .string t1, .bool b1, .int .i64 e1]), (w.heap.size + 1, 25, #[.int .i64 k2, .int .i64 m2, .int .i64 s2, .string t2, .bool b2, .int .i64 e2]), (w.heap.size, 25, #[.int .i64 k1, .int .i64 m1, .int .i64 s1, .string t1, .bool b1, .int .i64 e1])] : List (Nat × TypeId × Array Value)) W' := hB0
      clear hB0
      have e2 : a.tmps.getD 2 undef = .pointer (some ⟨w.heap.size, 0, none⟩) := hT 2 (by simp)
      have e3 : a.tmps.getD 3 undef = .pointer (some ⟨w.heap.size + 1, 0, none⟩) := hT 3 (by simp)
      have e5 : a.tmps.getD 5 undef = .pointer (some ⟨g0, 0, none⟩) := hT 5 (by simp)
      have e6 : a.tmps.getD 6 undef = .pointer (some ⟨g1, 0, none⟩) := hT 6 (by simp)
      have e48 : a.tmps.getD 48 undef = .bool false := hT 48 (by simp)
      clear hT hF hP
      rw [act_lit 150 a hd hsz]
      simp only [List.range, List.range.loop, List.map, e2, e3, e5, e6, e48]
      clear hd hsz e2 e3 e5 e6 e48
      clear HB
      have HB := Lib.hid hB
      clear hB
      have kf0_ := HB.out.box (i := 1) rfl
      have cf0_0 := kf0_.cell 0
      have cf0_1 := kf0_.cell 1
      have cf0_2 := kf0_.cell 2
      have cf0_3 := kf0_.cell 3
      have cf0_4 := kf0_.cell 4
      have cf0_5 := kf0_.cell 5
      clear kf0_
      go_wp2_with fail
      refine (HBK1.out _).mono ?_
      rintro x w2 ⟨rfl, hb⟩
      have hB := HB.out.call hb
      clear cf0_0 cf0_1 cf0_2 cf0_3 cf0_4 cf0_5
      clear hb HB
      have HB : Hid (SB w 2 ([(g1, 29, #[.int .i64 k2, .int .i64 m2, .int .i64 s2, .string t2, .bool b2, .int .i64 e2]), (g0, 29, #[.int .i64 k1, .int .i64 m1, .int .i64 s1, .string t1, .bool b1, .int .i64 e1]), (w.heap.size + 1, 25, #[.int .i64 k2, .int .i64 m2, .int .i64 s2, .string t2, .bool b2, .int .i64 e2]), (w.heap.size, 25, #[.int .i64 k1, .int .i64 m1, .int .i64 s1, .string t1, .bool b1, .int .i64 e1])] : List (Nat × TypeId × Array Value)) w2) := Lib.hid (by simpa using hB)
      clear hB
      have hbel := HB.out.bel
      clear HB
      go_wp2
      go_ret
      exact ⟨rfl, hbel⟩
set_option maxRecDepth 20000 in
set_option maxHeartbeats 4000000 in
theorem any_bad2 {w : World} {k1 m1 s1 : Int} {t1 : ByteArray} {b1 : Bool} {e1 : Int} {k2 m2 s2 : Int} {t2 : ByteArray} {b2 : Bool} {e2 : Int} {E : Bool} {E2 : Int}  (h1 : t1.size ≤ 3000) (h2 : t2.size ≤ 3000) (hE : sameB k1 m1 s1 t1 b1 e1 k2 m2 s2 t2 b2 e2 = E) (hE2 : ¬ E2 = 0) (CK : ∀ W : World, Below w.heap.size w W → Calls Tryz.prog 6 #[.agg #[.int .i64 k1, .int .i64 m1, .int .i64 s1, .string t1, .bool b1, .int .i64 e1]] W fun x w' => x = .returned (.int .i64 0) ∧ Below W.heap.size W w') (BK1 : ∀ W : World, Calls Tryz.prog 7 #[.agg #[.int .i64 k1, .int .i64 m1, .int .i64 s1, .string t1, .bool b1, .int .i64 e1]] W fun x w' => x = .returned (.int .i64 0) ∧ Below W.heap.size W w') (SM : ∀ W : World, Calls Tryz.prog 8 #[.agg #[.int .i64 k1, .int .i64 m1, .int .i64 s1, .string t1, .bool b1, .int .i64 e1], .agg #[.int .i64 k2, .int .i64 m2, .int .i64 s2, .string t2, .bool b2, .int .i64 e2]] W fun x w' => x = .returned (.bool E) ∧ Below W.heap.size W w') (BK2 : ∀ W : World, Calls Tryz.prog 7 #[.agg #[.int .i64 k2, .int .i64 m2, .int .i64 s2, .string t2, .bool b2, .int .i64 e2]] W fun x w' => x = .returned (.int .i64 E2) ∧ Below W.heap.size W w') :
    Calls Tryz.prog 3 #[.agg #[.int .i64 k1, .int .i64 m1, .int .i64 s1, .string t1, .bool b1, .int .i64 e1], .agg #[.int .i64 k2, .int .i64 m2, .int .i64 s2, .string t2, .bool b2, .int .i64 e2]] w fun x w' => x = .returned (.bool true) ∧ Below w.heap.size w w' := by
  have HN := Lib.hid (fun W : World => known9_any (w := W))
  have HE := Lib.hid hE
  clear hE
  have hE2' : (E2 != 0) = true := bne_iff_ne.2 hE2
  have HCK := Lib.hid CK
  clear CK
  have HBK1 := Lib.hid BK1
  clear BK1
  have HSM := Lib.hid SM
  clear SM
  have HBK2 := Lib.hid BK2
  clear BK2
  have h1' : ¬ (3000 : Int) < ((t1.size : Nat) : Int) := by omega
  have h2' : ¬ (3000 : Int) < ((t2.size : Nat) : Int) := by omega
  clear h1 h2
  have HO1 := Lib.hid (fun W : World => of9_any (w := W) k1 m1 s1 t1 b1 e1)
  have HO2 := Lib.hid (fun W : World => of9_any (w := W) k2 m2 s2 t2 b2 e2)
  have HB := Lib.hid ((sb1 w 25 #[.int .i64 k1, .int .i64 m1, .int .i64 s1, .string t1, .bool b1, .int .i64 e1]).push (by simp) 25 #[.int .i64 k2, .int .i64 m2, .int .i64 s2, .string t2, .bool b2, .int .i64 e2])
  go_enter Tryz.func3, Tryz.ntmps3
  go_wp2_with fail
  refine (HN.out _).mono ?_
  rintro x w1 ⟨rfl, hb⟩
  have hB := HB.out.call hb
  clear hb HB
  have HB : Hid (SB w 2 ([(w.heap.size + 1, 25, #[.int .i64 k2, .int .i64 m2, .int .i64 s2, .string t2, .bool b2, .int .i64 e2]), (w.heap.size, 25, #[.int .i64 k1, .int .i64 m1, .int .i64 s1, .string t1, .bool b1, .int .i64 e1])] : List (Nat × TypeId × Array Value)) w1) := Lib.hid (by simpa using hB)
  clear hB
  clear HN
  have kf0_ := HB.out.box (i := 1) rfl
  have cf0_0 := kf0_.cell 0
  have cf0_1 := kf0_.cell 1
  have cf0_2 := kf0_.cell 2
  have cf0_3 := kf0_.cell 3
  have cf0_4 := kf0_.cell 4
  have cf0_5 := kf0_.cell 5
  clear kf0_
  have kf1_ := HB.out.box (i := 0) rfl
  have cf1_0 := kf1_.cell 0
  have cf1_1 := kf1_.cell 1
  have cf1_2 := kf1_.cell 2
  have cf1_3 := kf1_.cell 3
  have cf1_4 := kf1_.cell 4
  have cf1_5 := kf1_.cell 5
  clear kf1_
  go_wp2_with fail
  clear cf0_0 cf0_1 cf0_2 cf0_3 cf0_4 cf0_5 cf1_0 cf1_1 cf1_2 cf1_3 cf1_4 cf1_5
  refine wp_region_parts (S := S22 w 2 ([(w.heap.size + 1, 25, #[.int .i64 k2, .int .i64 m2, .int .i64 s2, .string t2, .bool b2, .int .i64 e2]), (w.heap.size, 25, #[.int .i64 k1, .int .i64 m1, .int .i64 s1, .string t1, .bool b1, .int .i64 e1])] : List (Nat × TypeId × Array Value)) 29 #[.int .i64 0, .int .i64 0, .int .i64 0, .string ⟨#[]⟩, .bool false, .int .i64 0] #[.int .i64 k1, .int .i64 m1, .int .i64 s1, .string t1, .bool b1, .int .i64 e1] 29 #[.int .i64 0, .int .i64 0, .int .i64 0, .string ⟨#[]⟩, .bool false, .int .i64 0] #[.int .i64 k2, .int .i64 m2, .int .i64 s2, .string t2, .bool b2, .int .i64 e2]) (E := fun _ _ => True) [4, 5, 6, 7] [(2, Is (.pointer (some ⟨w.heap.size, 0, none⟩))), (3, Is (.pointer (some ⟨w.heap.size + 1, 0, none⟩)))] [(31, Is (.agg #[.int .i64 k1, .int .i64 m1, .int .i64 s1, .string t1, .bool b1, .int .i64 e1])), (32, Is (.agg #[.int .i64 k1, .int .i64 m1, .int .i64 s1, .string t1, .bool b1, .int .i64 e1])), (33, Is (.agg #[.int .i64 k2, .int .i64 m2, .int .i64 s2, .string t2, .bool b2, .int .i64 e2])), (34, Is (.agg #[.int .i64 k2, .int .i64 m2, .int .i64 s2, .string t2, .bool b2, .int .i64 e2]))]
    [.op [2] none, .op [31] none, .op [3] none, .op [33] none, .phase 0 [] [] [], .phase 1 [] [] [], .phase 2 [32] [(0, 5)] [1], .phase 3 [34] [(1, 6)] [2, 0]] (by as_aux_lemma => kernel_rfl) ?_ ?_ ?_ ?_ ?_ ⟨stable_is _ _, stable_is _ _, stable_is _ _, stable_is _ _, stable_is _ _, stable_is _ _, trivial⟩ ?_ (HB.out.drew) ?_ ?_
  · as_aux_lemma => kernel_rfl
  · as_aux_lemma => kernel_rfl
  · as_aux_lemma => kernel_rfl
  · as_aux_lemma => kernel_rfl
  · as_aux_lemma => kernel_rfl
  · exact ⟨rfl, rfl, trivial⟩
  · refine ⟨?_, ?_, ?_, ?_, ?_, ?_, ?_, ?_, trivial⟩
    · as_aux_lemma =>
        intro vals a W hS hL
        have e2 : a.tmps.getD 2 undef = .pointer (some ⟨w.heap.size, 0, none⟩) := hL.1
        clear hL
        have kb : Bk W (w.heap.size) 25 #[.int .i64 k1, .int .i64 m1, .int .i64 s1, .string t1, .bool b1, .int .i64 e1] := hS.bk 1 rfl
        have f0 := kb.cell 0
        have f1 := kb.cell 1
        have f2 := kb.cell 2
        have f3 := kb.cell 3
        have f4 := kb.cell 4
        have f5 := kb.cell 5
        clear kb
        go_simp
        exact ⟨⟨fun d hd => by injection hd with hd; subst hd; rfl, fun h => by cases h⟩, hS, trivial⟩
    · as_aux_lemma =>
        intro vals a W hS hL
        have e31 : a.tmps.getD 31 undef = .agg #[.int .i64 k1, .int .i64 m1, .int .i64 s1, .string t1, .bool b1, .int .i64 e1] := hL.1
        clear hL
        go_simp
        refine (HO1.out W).mono ?_
        rintro e W' ⟨rfl, hb⟩
        exact ⟨_, rfl, ⟨fun d hd => by injection hd with hd; subst hd; rfl, fun h => by cases h⟩, hS.call hb, trivial⟩
    · as_aux_lemma =>
        intro vals a W hS hL
        have e3 : a.tmps.getD 3 undef = .pointer (some ⟨w.heap.size + 1, 0, none⟩) := hL.1
        clear hL
        have kb : Bk W (w.heap.size + 1) 25 #[.int .i64 k2, .int .i64 m2, .int .i64 s2, .string t2, .bool b2, .int .i64 e2] := hS.bk 0 rfl
        have f0 := kb.cell 0
        have f1 := kb.cell 1
        have f2 := kb.cell 2
        have f3 := kb.cell 3
        have f4 := kb.cell 4
        have f5 := kb.cell 5
        clear kb
        go_simp
        exact ⟨⟨fun d hd => by injection hd with hd; subst hd; rfl, fun h => by cases h⟩, hS, trivial⟩
    · as_aux_lemma =>
        intro vals a W hS hL
        have e33 : a.tmps.getD 33 undef = .agg #[.int .i64 k2, .int .i64 m2, .int .i64 s2, .string t2, .bool b2, .int .i64 e2] := hL.1
        clear hL
        go_simp
        refine (HO2.out W).mono ?_
        rintro e W' ⟨rfl, hb⟩
        exact ⟨_, rfl, ⟨fun d hd => by injection hd with hd; subst hd; rfl, fun h => by cases h⟩, hS.call hb, trivial⟩
    · as_aux_lemma =>
        intro a W vals hv hn hS hL hp hd
        clear hL
        go_simp
        exact ⟨hS.new0 hv hn, trivial, trivial⟩
    · as_aux_lemma =>
        intro a W vals hv hn hS hL hp hd
        clear hL
        go_simp
        exact ⟨hS.new1 hv hn, trivial, trivial⟩
    · as_aux_lemma =>
        intro a W vals hv hn hS hL hp hd
        have e32 : a.tmps.getD 32 undef = .agg #[.int .i64 k1, .int .i64 m1, .int .i64 s1, .string t1, .bool b1, .int .i64 e1] := hL.1
        clear hL
        obtain ⟨g, hg, kz, hnx⟩ := hS.at2 hv hn hp.1 hd.1
        rw [Array.getD_eq_getD_getElem?] at hg e32
        have z0 := kz.frozen 0
        have z1 := kz.frozen 1
        have z2 := kz.frozen 2
        have z3 := kz.frozen 3
        have z4 := kz.frozen 4
        have z5 := kz.frozen 5
        have q0 := kz.cell 0
        have q1 := kz.cell 1
        have q2 := kz.cell 2
        have q3 := kz.cell 3
        have q4 := kz.cell 4
        have q5 := kz.cell 5
        clear kz hS
        go_simp
        exact ⟨hnx _, trivial, trivial⟩
    · as_aux_lemma =>
        intro a W vals hv hn hS hL hp hd
        have e34 : a.tmps.getD 34 undef = .agg #[.int .i64 k2, .int .i64 m2, .int .i64 s2, .string t2, .bool b2, .int .i64 e2] := hL.1
        clear hL
        obtain ⟨g, hg, kz, hnx⟩ := hS.at3 hv hn hp.1 hd.1 hd.2.1
        rw [Array.getD_eq_getD_getElem?] at hg e34
        have z0 := kz.frozen 0
        have z1 := kz.frozen 1
        have z2 := kz.frozen 2
        have z3 := kz.frozen 3
        have z4 := kz.frozen 4
        have z5 := kz.frozen 5
        have q0 := kz.cell 0
        have q1 := kz.cell 1
        have q2 := kz.cell 2
        have q3 := kz.cell 3
        have q4 := kz.cell 4
        have q5 := kz.cell 5
        clear kz hS
        go_simp
        exact ⟨hnx _, trivial, trivial⟩
  · intro a W' vals hd hsz hT hF hv hall hP hS
    obtain ⟨g0, g1, hv0, hv1, hg0, hg1, hg01, hn0, hn1, hB⟩ := hS.fin hv hall
    simp only [List.mem_cons, List.not_mem_nil, or_false, forall_eq_or_imp, forall_eq] at hn0
    have e5 : a.tmps.getD 5 undef = .pointer (some ⟨g0, 0, none⟩) := (hP 0 4 _ 5 _ rfl rfl rfl hv0).symm
    simp only [List.mem_cons, List.not_mem_nil, or_false, forall_eq_or_imp, forall_eq] at hn1
    have e6 : a.tmps.getD 6 undef = .pointer (some ⟨g1, 0, none⟩) := (hP 1 5 _ 6 _ rfl rfl rfl hv1).symm
    have e2 : a.tmps.getD 2 undef = .pointer (some ⟨w.heap.size, 0, none⟩) := hT 2 (by simp)
    have e3 : a.tmps.getD 3 undef = .pointer (some ⟨w.heap.size + 1, 0, none⟩) := hT 3 (by simp)
    clear hT hF hP hS hall hv0 hv1
    rw [act_lit 150 a hd hsz]
    simp only [List.range, List.range.loop, List.map, e2, e3, e5, e6]
    clear hd hsz e2 e3 e5 e6
    clear HB
    have HB := Lib.hid hB
    clear hB
    go_wp2_with fail
    refine wp_region_phases (S := (fun vals W => SX w 2 ([] : List Stp) vals ([(g1, 29, #[.int .i64 k2, .int .i64 m2, .int .i64 s2, .string t2, .bool b2, .int .i64 e2]), (g0, 29, #[.int .i64 k1, .int .i64 m1, .int .i64 s1, .string t1, .bool b1, .int .i64 e1]), (w.heap.size + 1, 25, #[.int .i64 k2, .int .i64 m2, .int .i64 s2, .string t2, .bool b2, .int .i64 e2]), (w.heap.size, 25, #[.int .i64 k1, .int .i64 m1, .int .i64 s1, .string t1, .bool b1, .int .i64 e1])] : List (Nat × TypeId × Array Value)) W)) (E := (fun _ _ => True)) [] [(2, Is (.pointer (some ⟨w.heap.size, 0, none⟩))), (3, Is (.pointer (some ⟨w.heap.size + 1, 0, none⟩))), (5, Is (.pointer (some ⟨g0, 0, none⟩))), (6, Is (.pointer (some ⟨g1, 0, none⟩)))] [(35, Is (.agg #[.int .i64 k1, .int .i64 m1, .int .i64 s1, .string t1, .bool b1, .int .i64 e1])), (36, Is (.int .i64 0)), (37, Is (.agg #[.int .i64 k1, .int .i64 m1, .int .i64 s1, .string t1, .bool b1, .int .i64 e1])), (38, Is (.int .i64 0)), (39, Is (.bool false)), (40, Is (.bool false)), (41, Is (.agg #[.int .i64 k1, .int .i64 m1, .int .i64 s1, .string t1, .bool b1, .int .i64 e1])), (42, Is (.agg #[.int .i64 k2, .int .i64 m2, .int .i64 s2, .string t2, .bool b2, .int .i64 e2])), (43, Is (.bool E)), (44, Is (.agg #[.int .i64 k1, .int .i64 m1, .int .i64 s1, .string t1, .bool b1, .int .i64 e1])), (45, Is (.agg #[.int .i64 k2, .int .i64 m2, .int .i64 s2, .string t2, .bool b2, .int .i64 e2])), (46, Is (.bool E)), (47, Is (.bool false)), (48, Is (.bool false))]
      [.op [2] none, .op [35] none, .op [5] none, .op [37] none, .op [36, 38] none, .op [39] none, .op [2, 40] (some (40, false)), .op [3, 40] (some (40, false)), .op [41, 42, 40] (some (40, false)), .op [5, 40] (some (40, false)), .op [6, 40] (some (40, false)), .op [44, 45, 40] (some (40, false)), .op [43, 46, 40] (some (40, false)), .op [40, 47] none] (by as_aux_lemma => kernel_rfl) ?_ ?_ ?_ ?_ ?_ ⟨stable_is _ _, stable_is _ _, stable_is _ _, stable_is _ _, stable_is _ _, stable_is _ _, stable_is _ _, stable_is _ _, stable_is _ _, stable_is _ _, stable_is _ _, stable_is _ _, stable_is _ _, stable_is _ _, stable_is _ _, stable_is _ _, stable_is _ _, stable_is _ _, trivial⟩ ?_ (HB.out.drew) ?_ ?_
    · as_aux_lemma => kernel_rfl
    · as_aux_lemma => kernel_rfl
    · as_aux_lemma => kernel_rfl
    · as_aux_lemma => kernel_rfl
    · as_aux_lemma => kernel_rfl
    · exact ⟨rfl, rfl, rfl, rfl, trivial⟩
    · refine ⟨?_, ?_, ?_, ?_, ?_, ?_, ?_, ?_, ?_, ?_, ?_, ?_, ?_, ?_, trivial⟩
      · as_aux_lemma =>
          intro vals a W hS hL
          have e2 : a.tmps.getD 2 undef = .pointer (some ⟨w.heap.size, 0, none⟩) := hL.1
          clear hL
          have kb : Bk W (w.heap.size) 25 #[.int .i64 k1, .int .i64 m1, .int .i64 s1, .string t1, .bool b1, .int .i64 e1] := hS.bk 3 rfl rfl
          have f0 := kb.cell 0
          have f1 := kb.cell 1
          have f2 := kb.cell 2
          have f3 := kb.cell 3
          have f4 := kb.cell 4
          have f5 := kb.cell 5
          clear kb
          go_simp
          exact ⟨⟨fun d hd => by injection hd with hd; subst hd; rfl, fun h => by cases h⟩, hS, trivial⟩
      · as_aux_lemma =>
          intro vals a W hS hL
          have e35 : a.tmps.getD 35 undef = .agg #[.int .i64 k1, .int .i64 m1, .int .i64 s1, .string t1, .bool b1, .int .i64 e1] := hL.1
          clear hL
          go_simp
          refine (HCK.out W hS.bel).mono ?_
          rintro e W' ⟨rfl, hb⟩
          exact ⟨_, rfl, ⟨fun d hd => by injection hd with hd; subst hd; rfl, fun h => by cases h⟩, hS.call hb, trivial⟩
      · as_aux_lemma =>
          intro vals a W hS hL
          have e5 : a.tmps.getD 5 undef = .pointer (some ⟨g0, 0, none⟩) := hL.1
          clear hL
          have kb : Bk W (g0) 29 #[.int .i64 k1, .int .i64 m1, .int .i64 s1, .string t1, .bool b1, .int .i64 e1] := hS.bk 1 rfl rfl
          have f0 := kb.cell 0
          have f1 := kb.cell 1
          have f2 := kb.cell 2
          have f3 := kb.cell 3
          have f4 := kb.cell 4
          have f5 := kb.cell 5
          clear kb
          go_simp
          exact ⟨⟨fun d hd => by injection hd with hd; subst hd; rfl, fun h => by cases h⟩, hS, trivial⟩
      · as_aux_lemma =>
          intro vals a W hS hL
          have e37 : a.tmps.getD 37 undef = .agg #[.int .i64 k1, .int .i64 m1, .int .i64 s1, .string t1, .bool b1, .int .i64 e1] := hL.1
          clear hL
          go_simp
          refine (HBK1.out W).mono ?_
          rintro e W' ⟨rfl, hb⟩
          exact ⟨_, rfl, ⟨fun d hd => by injection hd with hd; subst hd; rfl, fun h => by cases h⟩, hS.call hb, trivial⟩
      · as_aux_lemma =>
          intro vals a W hS hL
          have e36 : a.tmps.getD 36 undef = .int .i64 0 := hL.1
          have e38 : a.tmps.getD 38 undef = .int .i64 0 := hL.2.1
          clear hL
          go_simp
          exact ⟨⟨fun d hd => by injection hd with hd; subst hd; rfl, fun h => by cases h⟩, hS, trivial⟩
      · as_aux_lemma =>
          intro vals a W hS hL
          have e39 : a.tmps.getD 39 undef = .bool false := hL.1
          clear hL
          go_simp
          exact ⟨⟨fun d hd => by injection hd with hd; subst hd; rfl, fun h => by cases h⟩, hS, trivial⟩
      · as_aux_lemma =>
          intro vals a W hS hL
          have e2 : a.tmps.getD 2 undef = .pointer (some ⟨w.heap.size, 0, none⟩) := hL.1
          have e40 : a.tmps.getD 40 undef = .bool false := hL.2.1
          clear hL
          refine ⟨false, e40, ?_⟩
          rw [if_pos rfl]
          have kb : Bk W (w.heap.size) 25 #[.int .i64 k1, .int .i64 m1, .int .i64 s1, .string t1, .bool b1, .int .i64 e1] := hS.bk 3 rfl rfl
          have f0 := kb.cell 0
          have f1 := kb.cell 1
          have f2 := kb.cell 2
          have f3 := kb.cell 3
          have f4 := kb.cell 4
          have f5 := kb.cell 5
          clear kb
          go_simp
          exact ⟨⟨fun d hd => by injection hd with hd; subst hd; rfl, fun h => by cases h⟩, hS, trivial⟩
      · as_aux_lemma =>
          intro vals a W hS hL
          have e3 : a.tmps.getD 3 undef = .pointer (some ⟨w.heap.size + 1, 0, none⟩) := hL.1
          have e40 : a.tmps.getD 40 undef = .bool false := hL.2.1
          clear hL
          refine ⟨false, e40, ?_⟩
          rw [if_pos rfl]
          have kb : Bk W (w.heap.size + 1) 25 #[.int .i64 k2, .int .i64 m2, .int .i64 s2, .string t2, .bool b2, .int .i64 e2] := hS.bk 2 rfl rfl
          have f0 := kb.cell 0
          have f1 := kb.cell 1
          have f2 := kb.cell 2
          have f3 := kb.cell 3
          have f4 := kb.cell 4
          have f5 := kb.cell 5
          clear kb
          go_simp
          exact ⟨⟨fun d hd => by injection hd with hd; subst hd; rfl, fun h => by cases h⟩, hS, trivial⟩
      · as_aux_lemma =>
          intro vals a W hS hL
          have e41 : a.tmps.getD 41 undef = .agg #[.int .i64 k1, .int .i64 m1, .int .i64 s1, .string t1, .bool b1, .int .i64 e1] := hL.1
          have e42 : a.tmps.getD 42 undef = .agg #[.int .i64 k2, .int .i64 m2, .int .i64 s2, .string t2, .bool b2, .int .i64 e2] := hL.2.1
          have e40 : a.tmps.getD 40 undef = .bool false := hL.2.2.1
          clear hL
          refine ⟨false, e40, ?_⟩
          rw [if_pos rfl]
          go_simp
          refine (HSM.out W).mono ?_
          rintro e W' ⟨rfl, hb⟩
          exact ⟨_, rfl, ⟨fun d hd => by injection hd with hd; subst hd; rfl, fun h => by cases h⟩, hS.call hb, trivial⟩
      · as_aux_lemma =>
          intro vals a W hS hL
          have e5 : a.tmps.getD 5 undef = .pointer (some ⟨g0, 0, none⟩) := hL.1
          have e40 : a.tmps.getD 40 undef = .bool false := hL.2.1
          clear hL
          refine ⟨false, e40, ?_⟩
          rw [if_pos rfl]
          have kb : Bk W (g0) 29 #[.int .i64 k1, .int .i64 m1, .int .i64 s1, .string t1, .bool b1, .int .i64 e1] := hS.bk 1 rfl rfl
          have f0 := kb.cell 0
          have f1 := kb.cell 1
          have f2 := kb.cell 2
          have f3 := kb.cell 3
          have f4 := kb.cell 4
          have f5 := kb.cell 5
          clear kb
          go_simp
          exact ⟨⟨fun d hd => by injection hd with hd; subst hd; rfl, fun h => by cases h⟩, hS, trivial⟩
      · as_aux_lemma =>
          intro vals a W hS hL
          have e6 : a.tmps.getD 6 undef = .pointer (some ⟨g1, 0, none⟩) := hL.1
          have e40 : a.tmps.getD 40 undef = .bool false := hL.2.1
          clear hL
          refine ⟨false, e40, ?_⟩
          rw [if_pos rfl]
          have kb : Bk W (g1) 29 #[.int .i64 k2, .int .i64 m2, .int .i64 s2, .string t2, .bool b2, .int .i64 e2] := hS.bk 0 rfl rfl
          have f0 := kb.cell 0
          have f1 := kb.cell 1
          have f2 := kb.cell 2
          have f3 := kb.cell 3
          have f4 := kb.cell 4
          have f5 := kb.cell 5
          clear kb
          go_simp
          exact ⟨⟨fun d hd => by injection hd with hd; subst hd; rfl, fun h => by cases h⟩, hS, trivial⟩
      · as_aux_lemma =>
          intro vals a W hS hL
          have e44 : a.tmps.getD 44 undef = .agg #[.int .i64 k1, .int .i64 m1, .int .i64 s1, .string t1, .bool b1, .int .i64 e1] := hL.1
          have e45 : a.tmps.getD 45 undef = .agg #[.int .i64 k2, .int .i64 m2, .int .i64 s2, .string t2, .bool b2, .int .i64 e2] := hL.2.1
          have e40 : a.tmps.getD 40 undef = .bool false := hL.2.2.1
          clear hL
          refine ⟨false, e40, ?_⟩
          rw [if_pos rfl]
          rw [Array.getD_eq_getD_getElem?] at e44 e45
          go_simp
          repeat' split
          all_goals first | (have hE : E = true := by (rw [← HE.out]; exact decide_eq_true ⟨by assumption, by assumption, by assumption, toList_inj (by assumption), by simp_all, by assumption⟩)); (subst hE; exact ⟨⟨fun d hd => by injection hd with hd; subst hd; rfl, fun h => by cases h⟩, hS, trivial⟩) | (have hE : E = false := by (rw [← HE.out]; exact decide_eq_false (fun h => by obtain ⟨q1, q2, q3, q4, q5, q6⟩ := h; simp_all))); (subst hE; exact ⟨⟨fun d hd => by injection hd with hd; subst hd; rfl, fun h => by cases h⟩, hS, trivial⟩)
      · as_aux_lemma =>
          intro vals a W hS hL
          have e43 : a.tmps.getD 43 undef = .bool E := hL.1
          have e46 : a.tmps.getD 46 undef = .bool E := hL.2.1
          have e40 : a.tmps.getD 40 undef = .bool false := hL.2.2.1
          clear hL
          refine ⟨false, e40, ?_⟩
          rw [if_pos rfl]
          go_simp
          exact ⟨⟨fun d hd => by injection hd with hd; subst hd; rfl, fun h => by cases h⟩, hS, trivial⟩
      · as_aux_lemma =>
          intro vals a W hS hL
          have e40 : a.tmps.getD 40 undef = .bool false := hL.1
          have e47 : a.tmps.getD 47 undef = .bool false := hL.2.1
          clear hL
          go_simp
          exact ⟨⟨fun d hd => by injection hd with hd; subst hd; rfl, fun h => by cases h⟩, hS, trivial⟩
    · intro a W' vals hd hsz hT hF hv hP hS
      obtain rfl : vals = [] := List.eq_nil_of_length_eq_zero hv
      have hS2 : SX w 2 ([] : List Stp) [] ([(g1, 29, #[.int .i64 k2, .int .i64 m2, .int .i64 s2, .string t2, .bool b2, .int .i64 e2]), (g0, 29, #[.int .i64 k1, .int .i64 m1, .int .i64 s1, .string t1, .bool b1, .int .i64 e1]), (w.heap.size + 1, 25, #[.int .i64 k2, .int .i64 m2, .int .i64 s2, .string t2, .bool b2, .int .i64 e2]), (w.heap.size, 25, #[.int .i64 k1, .int .i64 m1, .int .i64 s1, .string t1, .bool b1, .int .i64 e1])] : List (Nat × TypeId × Array Value)) W' := hS
      clear hS
      have hB0 := hS2
      have hB : SB w 2 ([(g1, 29, #[.int .i64 k2, .int .i64 m2, .int .i64 s2, .string t2, .bool b2, .int .i64 e2]), (g0, 29, #[.int .i64 k1, .int .i64 m1, .int .i64 s1, .string t1, .bool b1, .int .i64 e1]), (w.heap.size + 1, 25, #[.int .i64 k2, .int .i64 m2, .int .i64 s2, .string t2, .bool b2, .int .i64 e2]), (w.heap.size, 25, #[.int .i64 k1, .int .i64 m1, .int .i64 s1, .string t1, .bool b1, .int .i64 e1])] : List (Nat × TypeId × Array Value)) W' := hB0
      clear hB0
      have e2 : a.tmps.getD 2 undef = .pointer (some ⟨w.heap.size, 0, none⟩) := hT 2 (by simp)
      have e3 : a.tmps.getD 3 undef = .pointer (some ⟨w.heap.size + 1, 0, none⟩) := hT 3 (by simp)
      have e5 : a.tmps.getD 5 undef = .pointer (some ⟨g0, 0, none⟩) := hT 5 (by simp)
      have e6 : a.tmps.getD 6 undef = .pointer (some ⟨g1, 0, none⟩) := hT 6 (by simp)
      have e48 : a.tmps.getD 48 undef = .bool false := hT 48 (by simp)
      clear hT hF hP
      rw [act_lit 150 a hd hsz]
      simp only [List.range, List.range.loop, List.map, e2, e3, e5, e6, e48]
      clear hd hsz e2 e3 e5 e6 e48
      clear HB
      have HB := Lib.hid hB
      clear hB
      have kf0_ := HB.out.box (i := 1) rfl
      have cf0_0 := kf0_.cell 0
      have cf0_1 := kf0_.cell 1
      have cf0_2 := kf0_.cell 2
      have cf0_3 := kf0_.cell 3
      have cf0_4 := kf0_.cell 4
      have cf0_5 := kf0_.cell 5
      clear kf0_
      go_wp2_with fail
      refine (HBK1.out _).mono ?_
      rintro x w2 ⟨rfl, hb⟩
      have hB := HB.out.call hb
      clear cf0_0 cf0_1 cf0_2 cf0_3 cf0_4 cf0_5
      clear hb HB
      have HB : Hid (SB w 2 ([(g1, 29, #[.int .i64 k2, .int .i64 m2, .int .i64 s2, .string t2, .bool b2, .int .i64 e2]), (g0, 29, #[.int .i64 k1, .int .i64 m1, .int .i64 s1, .string t1, .bool b1, .int .i64 e1]), (w.heap.size + 1, 25, #[.int .i64 k2, .int .i64 m2, .int .i64 s2, .string t2, .bool b2, .int .i64 e2]), (w.heap.size, 25, #[.int .i64 k1, .int .i64 m1, .int .i64 s1, .string t1, .bool b1, .int .i64 e1])] : List (Nat × TypeId × Array Value)) w2) := Lib.hid (by simpa using hB)
      clear hB
      have kf0_ := HB.out.box (i := 0) rfl
      have cf0_0 := kf0_.cell 0
      have cf0_1 := kf0_.cell 1
      have cf0_2 := kf0_.cell 2
      have cf0_3 := kf0_.cell 3
      have cf0_4 := kf0_.cell 4
      have cf0_5 := kf0_.cell 5
      clear kf0_
      go_wp2_with fail
      refine (HBK2.out _).mono ?_
      rintro x w3 ⟨rfl, hb⟩
      have hB := HB.out.call hb
      clear cf0_0 cf0_1 cf0_2 cf0_3 cf0_4 cf0_5
      clear hb HB
      have HB : Hid (SB w 2 ([(g1, 29, #[.int .i64 k2, .int .i64 m2, .int .i64 s2, .string t2, .bool b2, .int .i64 e2]), (g0, 29, #[.int .i64 k1, .int .i64 m1, .int .i64 s1, .string t1, .bool b1, .int .i64 e1]), (w.heap.size + 1, 25, #[.int .i64 k2, .int .i64 m2, .int .i64 s2, .string t2, .bool b2, .int .i64 e2]), (w.heap.size, 25, #[.int .i64 k1, .int .i64 m1, .int .i64 s1, .string t1, .bool b1, .int .i64 e1])] : List (Nat × TypeId × Array Value)) w3) := Lib.hid (by simpa using hB)
      clear hB
      have hbel := HB.out.bel
      clear HB
      go_wp2
      go_ret
      exact ⟨rfl, hbel⟩
end Go.Proofs.YtmbjmgmnicacpaaGreatDoor
