/- cashbooklaw9.ValAny, where all may be, by its calls' contracts. Condition: these. -/
import Derived.Test.YtmbjmgmnicacpaaGreatDoorKnown9
import Derived.Test.YtmbjmgmnicacpaaGreatDoorR3
import Derived.Test.YtmbjmgmnicacpaaGreatDoorBox22
namespace Go.Proofs.YtmbjmgmnicacpaaGreatDoor
open Go.RowKit

set_option maxRecDepth 20000 in
set_option maxHeartbeats 4000000 in
theorem any_good {w : World} {k1 m1 s1 : Int} {t1 : ByteArray} {b1 : Bool} {e1 : Int} {k2 m2 s2 : Int} {t2 : ByteArray} {b2 : Bool} {e2 : Int} {E : Bool} {n1 n2 : Int} {p0 p1 p2 : Int} {p3 : ByteArray} {p4 : Bool} {p5 : Int} {ok1 : Bool} {T : ByteArray} {q0 q1 q2 : Int} {q3 : ByteArray} {q4 : Bool} {q5 : Int} {ok2 : Bool} {c : Bool} {r0 r1 r2 : Int} {r3 : ByteArray} {r4 : Bool} {r5 : Int} {ok3 : Bool} {T2 : ByteArray} {C : Int}  (h1 : t1.size ≤ 3000) (h2 : t2.size ≤ 3000) (hE : sameB k1 m1 s1 t1 b1 e1 k2 m2 s2 t2 b2 e2 = E) (CK : ∀ W : World, Below w.heap.size w W → Calls Tryz.prog 6 #[.agg #[.int .i64 k1, .int .i64 m1, .int .i64 s1, .string t1, .bool b1, .int .i64 e1]] W fun x w' => x = .returned (.int .i64 0) ∧ Below W.heap.size W w') (BK1 : ∀ W : World, Calls Tryz.prog 7 #[.agg #[.int .i64 k1, .int .i64 m1, .int .i64 s1, .string t1, .bool b1, .int .i64 e1]] W fun x w' => x = .returned (.int .i64 0) ∧ Below W.heap.size W w') (SM : ∀ W : World, Calls Tryz.prog 8 #[.agg #[.int .i64 k1, .int .i64 m1, .int .i64 s1, .string t1, .bool b1, .int .i64 e1], .agg #[.int .i64 k2, .int .i64 m2, .int .i64 s2, .string t2, .bool b2, .int .i64 e2]] W fun x w' => x = .returned (.bool E) ∧ Below W.heap.size W w') (BK2 : ∀ W : World, Calls Tryz.prog 7 #[.agg #[.int .i64 k2, .int .i64 m2, .int .i64 s2, .string t2, .bool b2, .int .i64 e2]] W fun x w' => x = .returned (.int .i64 0) ∧ Below W.heap.size W w') (NU : ∀ W : World, Calls Tryz.prog 9 #[.agg #[.int .i64 k1, .int .i64 m1, .int .i64 s1, .string t1, .bool b1, .int .i64 e1]] W fun x w' => x = .returned (.tuple #[.agg #[.int .i64 n1, .int .i64 n2], .agg #[.int .i64 p0, .int .i64 p1, .int .i64 p2, .string p3, .bool p4, .int .i64 p5], .bool ok1]) ∧ Below W.heap.size W w') (BNU : ∀ W : World, Calls Tryz.prog 10 #[.agg #[.int .i64 k1, .int .i64 m1, .int .i64 s1, .string t1, .bool b1, .int .i64 e1]] W fun x w' => x = .returned (.tuple #[.agg #[.int .i64 n1, .int .i64 n2], .agg #[.int .i64 p0, .int .i64 p1, .int .i64 p2, .string p3, .bool p4, .int .i64 p5], .bool ok1]) ∧ Below W.heap.size W w') (WO : ∀ W : World, Below w.heap.size w W → Calls Tryz.prog 12 #[.agg #[.int .i64 k1, .int .i64 m1, .int .i64 s1, .string t1, .bool b1, .int .i64 e1]] W fun x w' => x = .returned (.tuple #[.string T, .agg #[.int .i64 q0, .int .i64 q1, .int .i64 q2, .string q3, .bool q4, .int .i64 q5], .bool ok2]) ∧ Below W.heap.size W w') (BWO : ∀ W : World, Calls Tryz.prog 13 #[.agg #[.int .i64 k1, .int .i64 m1, .int .i64 s1, .string t1, .bool b1, .int .i64 e1]] W fun x w' => x = .returned (.tuple #[.string T, .agg #[.int .i64 q0, .int .i64 q1, .int .i64 q2, .string q3, .bool q4, .int .i64 q5], .bool ok2]) ∧ Below W.heap.size W w') (TR : ∀ W : World, Calls Tryz.prog 14 #[.agg #[.int .i64 k1, .int .i64 m1, .int .i64 s1, .string t1, .bool b1, .int .i64 e1]] W fun x w' => x = .returned (.tuple #[.bool c, .agg #[.int .i64 r0, .int .i64 r1, .int .i64 r2, .string r3, .bool r4, .int .i64 r5], .bool ok3]) ∧ Below W.heap.size W w') (BTR : ∀ W : World, Calls Tryz.prog 15 #[.agg #[.int .i64 k1, .int .i64 m1, .int .i64 s1, .string t1, .bool b1, .int .i64 e1]] W fun x w' => x = .returned (.tuple #[.bool c, .agg #[.int .i64 r0, .int .i64 r1, .int .i64 r2, .string r3, .bool r4, .int .i64 r5], .bool ok3]) ∧ Below W.heap.size W w') (TX : ∀ W : World, Below w.heap.size w W → Calls Tryz.prog 16 #[.agg #[.int .i64 k1, .int .i64 m1, .int .i64 s1, .string t1, .bool b1, .int .i64 e1]] W fun x w' => x = .returned (.string T2) ∧ Below W.heap.size W w') (BTX : ∀ W : World, Calls Tryz.prog 17 #[.agg #[.int .i64 k1, .int .i64 m1, .int .i64 s1, .string t1, .bool b1, .int .i64 e1]] W fun x w' => x = .returned (.string T2) ∧ Below W.heap.size W w') (CM : ∀ W : World, Calls Tryz.prog 18 #[.agg #[.int .i64 k1, .int .i64 m1, .int .i64 s1, .string t1, .bool b1, .int .i64 e1], .agg #[.int .i64 k2, .int .i64 m2, .int .i64 s2, .string t2, .bool b2, .int .i64 e2]] W fun x w' => x = .returned (.int .i64 C) ∧ Below W.heap.size W w') (BCM : ∀ W : World, Calls Tryz.prog 19 #[.agg #[.int .i64 k1, .int .i64 m1, .int .i64 s1, .string t1, .bool b1, .int .i64 e1], .agg #[.int .i64 k2, .int .i64 m2, .int .i64 s2, .string t2, .bool b2, .int .i64 e2]] W fun x w' => x = .returned (.int .i64 C) ∧ Below W.heap.size W w') :
    Calls Tryz.prog 3 #[.agg #[.int .i64 k1, .int .i64 m1, .int .i64 s1, .string t1, .bool b1, .int .i64 e1], .agg #[.int .i64 k2, .int .i64 m2, .int .i64 s2, .string t2, .bool b2, .int .i64 e2]] w fun x w' => x = .returned (.bool true) ∧ Below w.heap.size w w' := by
  have HN := Lib.hid (fun W : World => known9_any (w := W))
  have HE := Lib.hid hE
  clear hE
  have HCK := Lib.hid CK
  clear CK
  have HBK1 := Lib.hid BK1
  clear BK1
  have HSM := Lib.hid SM
  clear SM
  have HBK2 := Lib.hid BK2
  clear BK2
  have HNU := Lib.hid NU
  clear NU
  have HBNU := Lib.hid BNU
  clear BNU
  have HWO := Lib.hid WO
  clear WO
  have HBWO := Lib.hid BWO
  clear BWO
  have HTR := Lib.hid TR
  clear TR
  have HBTR := Lib.hid BTR
  clear BTR
  have HTX := Lib.hid TX
  clear TX
  have HBTX := Lib.hid BTX
  clear BTX
  have HCM := Lib.hid CM
  clear CM
  have HBCM := Lib.hid BCM
  clear BCM
  have h1' : ¬ (3000 : Int) < ((t1.size : Nat) : Int) := by omega
  have h2' : ¬ (3000 : Int) < ((t2.size : Nat) : Int) := by omega
  clear h1 h2
  have HO1 := Lib.hid (fun W : World => of9_any (w := W) k1 m1 s1 t1 b1 e1)
  have HO2 := Lib.hid (fun W : World => of9_any (w := W) k2 m2 s2 t2 b2 e2)
  have HO4 := Lib.hid (fun W : World => of4_any (w := W) n1 n2)
  have HOp := Lib.hid (fun W : World => of9_any (w := W) p0 p1 p2 p3 p4 p5)
  have HOq := Lib.hid (fun W : World => of9_any (w := W) q0 q1 q2 q3 q4 q5)
  have HOr := Lib.hid (fun W : World => of9_any (w := W) r0 r1 r2 r3 r4 r5)
  have HB := Lib.hid ((sb1 w 25 #[.int .i64 k1, .int .i64 m1, .int .i64 s1, .string t1, .bool b1, .int .i64 e1]).push (by simp) 25 #[.int .i64 k2, .int .i64 m2, .int .i64 s2, .string t2, .bool b2, .int .i64 e2])
  go_enter Tryz.func3, Tryz.ntmps3
  go_wp2_with fail
  refine (HN.out _).mono ?_
  rintro x w1 ⟨rfl, hb⟩
  have hB := HB.out.call hb
  clear hb HB
  have HB : Hid (SB w 2 ([(w.heap.size + 1, 25, #[.int .i64 k2, .int .i64 m2, .int .i64 s2, .string t2, .bool b2, .int .i64 e2]), (w.heap.size, 25, #[.int .i64 k1, .int .i64 m1, .int .i64 s1, .string t1, .bool b1, .int .i64 e1])] : List (Nat × TypeId × Array Value)) w1) := Lib.hid (by simpa using hB)
  clear hB
  clear HN
  have kf0_ := HB.out.box (i := 1) rfl
  have cf0_0 := kf0_.cell 0
  have cf0_1 := kf0_.cell 1
  have cf0_2 := kf0_.cell 2
  have cf0_3 := kf0_.cell 3
  have cf0_4 := kf0_.cell 4
  have cf0_5 := kf0_.cell 5
  clear kf0_
  have kf1_ := HB.out.box (i := 0) rfl
  have cf1_0 := kf1_.cell 0
  have cf1_1 := kf1_.cell 1
  have cf1_2 := kf1_.cell 2
  have cf1_3 := kf1_.cell 3
  have cf1_4 := kf1_.cell 4
  have cf1_5 := kf1_.cell 5
  clear kf1_
  go_wp2_with fail
  clear cf0_0 cf0_1 cf0_2 cf0_3 cf0_4 cf0_5 cf1_0 cf1_1 cf1_2 cf1_3 cf1_4 cf1_5
  refine wp_region_parts (S := S22 w 2 ([(w.heap.size + 1, 25, #[.int .i64 k2, .int .i64 m2, .int .i64 s2, .string t2, .bool b2, .int .i64 e2]), (w.heap.size, 25, #[.int .i64 k1, .int .i64 m1, .int .i64 s1, .string t1, .bool b1, .int .i64 e1])] : List (Nat × TypeId × Array Value)) 29 #[.int .i64 0, .int .i64 0, .int .i64 0, .string ⟨#[]⟩, .bool false, .int .i64 0] #[.int .i64 k1, .int .i64 m1, .int .i64 s1, .string t1, .bool b1, .int .i64 e1] 29 #[.int .i64 0, .int .i64 0, .int .i64 0, .string ⟨#[]⟩, .bool false, .int .i64 0] #[.int .i64 k2, .int .i64 m2, .int .i64 s2, .string t2, .bool b2, .int .i64 e2]) (E := fun _ _ => True) [4, 5, 6, 7] [(2, Is (.pointer (some ⟨w.heap.size, 0, none⟩))), (3, Is (.pointer (some ⟨w.heap.size + 1, 0, none⟩)))] [(31, Is (.agg #[.int .i64 k1, .int .i64 m1, .int .i64 s1, .string t1, .bool b1, .int .i64 e1])), (32, Is (.agg #[.int .i64 k1, .int .i64 m1, .int .i64 s1, .string t1, .bool b1, .int .i64 e1])), (33, Is (.agg #[.int .i64 k2, .int .i64 m2, .int .i64 s2, .string t2, .bool b2, .int .i64 e2])), (34, Is (.agg #[.int .i64 k2, .int .i64 m2, .int .i64 s2, .string t2, .bool b2, .int .i64 e2]))]
    [.op [2] none, .op [31] none, .op [3] none, .op [33] none, .phase 0 [] [] [], .phase 1 [] [] [], .phase 2 [32] [(0, 5)] [1], .phase 3 [34] [(1, 6)] [2, 0]] (by as_aux_lemma => kernel_rfl) ?_ ?_ ?_ ?_ ?_ ⟨stable_is _ _, stable_is _ _, stable_is _ _, stable_is _ _, stable_is _ _, stable_is _ _, trivial⟩ ?_ (HB.out.drew) ?_ ?_
  · as_aux_lemma => kernel_rfl
  · as_aux_lemma => kernel_rfl
  · as_aux_lemma => kernel_rfl
  · as_aux_lemma => kernel_rfl
  · as_aux_lemma => kernel_rfl
  · exact ⟨rfl, rfl, trivial⟩
  · refine ⟨?_, ?_, ?_, ?_, ?_, ?_, ?_, ?_, trivial⟩
    · as_aux_lemma =>
        intro vals a W hS hL
        have e2 : a.tmps.getD 2 undef = .pointer (some ⟨w.heap.size, 0, none⟩) := hL.1
        clear hL
        have kb : Bk W (w.heap.size) 25 #[.int .i64 k1, .int .i64 m1, .int .i64 s1, .string t1, .bool b1, .int .i64 e1] := hS.bk 1 rfl
        have f0 := kb.cell 0
        have f1 := kb.cell 1
        have f2 := kb.cell 2
        have f3 := kb.cell 3
        have f4 := kb.cell 4
        have f5 := kb.cell 5
        clear kb
        go_simp
        exact ⟨⟨fun d hd => by injection hd with hd; subst hd; rfl, fun h => by cases h⟩, hS, trivial⟩
    · as_aux_lemma =>
        intro vals a W hS hL
        have e31 : a.tmps.getD 31 undef = .agg #[.int .i64 k1, .int .i64 m1, .int .i64 s1, .string t1, .bool b1, .int .i64 e1] := hL.1
        clear hL
        go_simp
        refine (HO1.out W).mono ?_
        rintro e W' ⟨rfl, hb⟩
        exact ⟨_, rfl, ⟨fun d hd => by injection hd with hd; subst hd; rfl, fun h => by cases h⟩, hS.call hb, trivial⟩
    · as_aux_lemma =>
        intro vals a W hS hL
        have e3 : a.tmps.getD 3 undef = .pointer (some ⟨w.heap.size + 1, 0, none⟩) := hL.1
        clear hL
        have kb : Bk W (w.heap.size + 1) 25 #[.int .i64 k2, .int .i64 m2, .int .i64 s2, .string t2, .bool b2, .int .i64 e2] := hS.bk 0 rfl
        have f0 := kb.cell 0
        have f1 := kb.cell 1
        have f2 := kb.cell 2
        have f3 := kb.cell 3
        have f4 := kb.cell 4
        have f5 := kb.cell 5
        clear kb
        go_simp
        exact ⟨⟨fun d hd => by injection hd with hd; subst hd; rfl, fun h => by cases h⟩, hS, trivial⟩
    · as_aux_lemma =>
        intro vals a W hS hL
        have e33 : a.tmps.getD 33 undef = .agg #[.int .i64 k2, .int .i64 m2, .int .i64 s2, .string t2, .bool b2, .int .i64 e2] := hL.1
        clear hL
        go_simp
        refine (HO2.out W).mono ?_
        rintro e W' ⟨rfl, hb⟩
        exact ⟨_, rfl, ⟨fun d hd => by injection hd with hd; subst hd; rfl, fun h => by cases h⟩, hS.call hb, trivial⟩
    · as_aux_lemma =>
        intro a W vals hv hn hS hL hp hd
        clear hL
        go_simp
        exact ⟨hS.new0 hv hn, trivial, trivial⟩
    · as_aux_lemma =>
        intro a W vals hv hn hS hL hp hd
        clear hL
        go_simp
        exact ⟨hS.new1 hv hn, trivial, trivial⟩
    · as_aux_lemma =>
        intro a W vals hv hn hS hL hp hd
        have e32 : a.tmps.getD 32 undef = .agg #[.int .i64 k1, .int .i64 m1, .int .i64 s1, .string t1, .bool b1, .int .i64 e1] := hL.1
        clear hL
        obtain ⟨g, hg, kz, hnx⟩ := hS.at2 hv hn hp.1 hd.1
        rw [Array.getD_eq_getD_getElem?] at hg e32
        have z0 := kz.frozen 0
        have z1 := kz.frozen 1
        have z2 := kz.frozen 2
        have z3 := kz.frozen 3
        have z4 := kz.frozen 4
        have z5 := kz.frozen 5
        have q0 := kz.cell 0
        have q1 := kz.cell 1
        have q2 := kz.cell 2
        have q3 := kz.cell 3
        have q4 := kz.cell 4
        have q5 := kz.cell 5
        clear kz hS
        go_simp
        exact ⟨hnx _, trivial, trivial⟩
    · as_aux_lemma =>
        intro a W vals hv hn hS hL hp hd
        have e34 : a.tmps.getD 34 undef = .agg #[.int .i64 k2, .int .i64 m2, .int .i64 s2, .string t2, .bool b2, .int .i64 e2] := hL.1
        clear hL
        obtain ⟨g, hg, kz, hnx⟩ := hS.at3 hv hn hp.1 hd.1 hd.2.1
        rw [Array.getD_eq_getD_getElem?] at hg e34
        have z0 := kz.frozen 0
        have z1 := kz.frozen 1
        have z2 := kz.frozen 2
        have z3 := kz.frozen 3
        have z4 := kz.frozen 4
        have z5 := kz.frozen 5
        have q0 := kz.cell 0
        have q1 := kz.cell 1
        have q2 := kz.cell 2
        have q3 := kz.cell 3
        have q4 := kz.cell 4
        have q5 := kz.cell 5
        clear kz hS
        go_simp
        exact ⟨hnx _, trivial, trivial⟩
  · intro a W' vals hd hsz hT hF hv hall hP hS
    obtain ⟨g0, g1, hv0, hv1, hg0, hg1, hg01, hn0, hn1, hB⟩ := hS.fin hv hall
    simp only [List.mem_cons, List.not_mem_nil, or_false, forall_eq_or_imp, forall_eq] at hn0
    have e5 : a.tmps.getD 5 undef = .pointer (some ⟨g0, 0, none⟩) := (hP 0 4 _ 5 _ rfl rfl rfl hv0).symm
    simp only [List.mem_cons, List.not_mem_nil, or_false, forall_eq_or_imp, forall_eq] at hn1
    have e6 : a.tmps.getD 6 undef = .pointer (some ⟨g1, 0, none⟩) := (hP 1 5 _ 6 _ rfl rfl rfl hv1).symm
    have e2 : a.tmps.getD 2 undef = .pointer (some ⟨w.heap.size, 0, none⟩) := hT 2 (by simp)
    have e3 : a.tmps.getD 3 undef = .pointer (some ⟨w.heap.size + 1, 0, none⟩) := hT 3 (by simp)
    clear hT hF hP hS hall hv0 hv1
    rw [act_lit 150 a hd hsz]
    simp only [List.range, List.range.loop, List.map, e2, e3, e5, e6]
    clear hd hsz e2 e3 e5 e6
    clear HB
    have HB := Lib.hid hB
    clear hB
    go_wp2_with fail
    refine wp_region_phases (S := (fun vals W => SX w 2 ([] : List Stp) vals ([(g1, 29, #[.int .i64 k2, .int .i64 m2, .int .i64 s2, .string t2, .bool b2, .int .i64 e2]), (g0, 29, #[.int .i64 k1, .int .i64 m1, .int .i64 s1, .string t1, .bool b1, .int .i64 e1]), (w.heap.size + 1, 25, #[.int .i64 k2, .int .i64 m2, .int .i64 s2, .string t2, .bool b2, .int .i64 e2]), (w.heap.size, 25, #[.int .i64 k1, .int .i64 m1, .int .i64 s1, .string t1, .bool b1, .int .i64 e1])] : List (Nat × TypeId × Array Value)) W)) (E := (fun _ _ => True)) [] [(2, Is (.pointer (some ⟨w.heap.size, 0, none⟩))), (3, Is (.pointer (some ⟨w.heap.size + 1, 0, none⟩))), (5, Is (.pointer (some ⟨g0, 0, none⟩))), (6, Is (.pointer (some ⟨g1, 0, none⟩)))] [(35, Is (.agg #[.int .i64 k1, .int .i64 m1, .int .i64 s1, .string t1, .bool b1, .int .i64 e1])), (36, Is (.int .i64 0)), (37, Is (.agg #[.int .i64 k1, .int .i64 m1, .int .i64 s1, .string t1, .bool b1, .int .i64 e1])), (38, Is (.int .i64 0)), (39, Is (.bool false)), (40, Is (.bool false)), (41, Is (.agg #[.int .i64 k1, .int .i64 m1, .int .i64 s1, .string t1, .bool b1, .int .i64 e1])), (42, Is (.agg #[.int .i64 k2, .int .i64 m2, .int .i64 s2, .string t2, .bool b2, .int .i64 e2])), (43, Is (.bool E)), (44, Is (.agg #[.int .i64 k1, .int .i64 m1, .int .i64 s1, .string t1, .bool b1, .int .i64 e1])), (45, Is (.agg #[.int .i64 k2, .int .i64 m2, .int .i64 s2, .string t2, .bool b2, .int .i64 e2])), (46, Is (.bool E)), (47, Is (.bool false)), (48, Is (.bool false))]
      [.op [2] none, .op [35] none, .op [5] none, .op [37] none, .op [36, 38] none, .op [39] none, .op [2, 40] (some (40, false)), .op [3, 40] (some (40, false)), .op [41, 42, 40] (some (40, false)), .op [5, 40] (some (40, false)), .op [6, 40] (some (40, false)), .op [44, 45, 40] (some (40, false)), .op [43, 46, 40] (some (40, false)), .op [40, 47] none] (by as_aux_lemma => kernel_rfl) ?_ ?_ ?_ ?_ ?_ ⟨stable_is _ _, stable_is _ _, stable_is _ _, stable_is _ _, stable_is _ _, stable_is _ _, stable_is _ _, stable_is _ _, stable_is _ _, stable_is _ _, stable_is _ _, stable_is _ _, stable_is _ _, stable_is _ _, stable_is _ _, stable_is _ _, stable_is _ _, stable_is _ _, trivial⟩ ?_ (HB.out.drew) ?_ ?_
    · as_aux_lemma => kernel_rfl
    · as_aux_lemma => kernel_rfl
    · as_aux_lemma => kernel_rfl
    · as_aux_lemma => kernel_rfl
    · as_aux_lemma => kernel_rfl
    · exact ⟨rfl, rfl, rfl, rfl, trivial⟩
    · refine ⟨?_, ?_, ?_, ?_, ?_, ?_, ?_, ?_, ?_, ?_, ?_, ?_, ?_, ?_, trivial⟩
      · as_aux_lemma =>
          intro vals a W hS hL
          have e2 : a.tmps.getD 2 undef = .pointer (some ⟨w.heap.size, 0, none⟩) := hL.1
          clear hL
          have kb : Bk W (w.heap.size) 25 #[.int .i64 k1, .int .i64 m1, .int .i64 s1, .string t1, .bool b1, .int .i64 e1] := hS.bk 3 rfl rfl
          have f0 := kb.cell 0
          have f1 := kb.cell 1
          have f2 := kb.cell 2
          have f3 := kb.cell 3
          have f4 := kb.cell 4
          have f5 := kb.cell 5
          clear kb
          go_simp
          exact ⟨⟨fun d hd => by injection hd with hd; subst hd; rfl, fun h => by cases h⟩, hS, trivial⟩
      · as_aux_lemma =>
          intro vals a W hS hL
          have e35 : a.tmps.getD 35 undef = .agg #[.int .i64 k1, .int .i64 m1, .int .i64 s1, .string t1, .bool b1, .int .i64 e1] := hL.1
          clear hL
          go_simp
          refine (HCK.out W hS.bel).mono ?_
          rintro e W' ⟨rfl, hb⟩
          exact ⟨_, rfl, ⟨fun d hd => by injection hd with hd; subst hd; rfl, fun h => by cases h⟩, hS.call hb, trivial⟩
      · as_aux_lemma =>
          intro vals a W hS hL
          have e5 : a.tmps.getD 5 undef = .pointer (some ⟨g0, 0, none⟩) := hL.1
          clear hL
          have kb : Bk W (g0) 29 #[.int .i64 k1, .int .i64 m1, .int .i64 s1, .string t1, .bool b1, .int .i64 e1] := hS.bk 1 rfl rfl
          have f0 := kb.cell 0
          have f1 := kb.cell 1
          have f2 := kb.cell 2
          have f3 := kb.cell 3
          have f4 := kb.cell 4
          have f5 := kb.cell 5
          clear kb
          go_simp
          exact ⟨⟨fun d hd => by injection hd with hd; subst hd; rfl, fun h => by cases h⟩, hS, trivial⟩
      · as_aux_lemma =>
          intro vals a W hS hL
          have e37 : a.tmps.getD 37 undef = .agg #[.int .i64 k1, .int .i64 m1, .int .i64 s1, .string t1, .bool b1, .int .i64 e1] := hL.1
          clear hL
          go_simp
          refine (HBK1.out W).mono ?_
          rintro e W' ⟨rfl, hb⟩
          exact ⟨_, rfl, ⟨fun d hd => by injection hd with hd; subst hd; rfl, fun h => by cases h⟩, hS.call hb, trivial⟩
      · as_aux_lemma =>
          intro vals a W hS hL
          have e36 : a.tmps.getD 36 undef = .int .i64 0 := hL.1
          have e38 : a.tmps.getD 38 undef = .int .i64 0 := hL.2.1
          clear hL
          go_simp
          exact ⟨⟨fun d hd => by injection hd with hd; subst hd; rfl, fun h => by cases h⟩, hS, trivial⟩
      · as_aux_lemma =>
          intro vals a W hS hL
          have e39 : a.tmps.getD 39 undef = .bool false := hL.1
          clear hL
          go_simp
          exact ⟨⟨fun d hd => by injection hd with hd; subst hd; rfl, fun h => by cases h⟩, hS, trivial⟩
      · as_aux_lemma =>
          intro vals a W hS hL
          have e2 : a.tmps.getD 2 undef = .pointer (some ⟨w.heap.size, 0, none⟩) := hL.1
          have e40 : a.tmps.getD 40 undef = .bool false := hL.2.1
          clear hL
          refine ⟨false, e40, ?_⟩
          rw [if_pos rfl]
          have kb : Bk W (w.heap.size) 25 #[.int .i64 k1, .int .i64 m1, .int .i64 s1, .string t1, .bool b1, .int .i64 e1] := hS.bk 3 rfl rfl
          have f0 := kb.cell 0
          have f1 := kb.cell 1
          have f2 := kb.cell 2
          have f3 := kb.cell 3
          have f4 := kb.cell 4
          have f5 := kb.cell 5
          clear kb
          go_simp
          exact ⟨⟨fun d hd => by injection hd with hd; subst hd; rfl, fun h => by cases h⟩, hS, trivial⟩
      · as_aux_lemma =>
          intro vals a W hS hL
          have e3 : a.tmps.getD 3 undef = .pointer (some ⟨w.heap.size + 1, 0, none⟩) := hL.1
          have e40 : a.tmps.getD 40 undef = .bool false := hL.2.1
          clear hL
          refine ⟨false, e40, ?_⟩
          rw [if_pos rfl]
          have kb : Bk W (w.heap.size + 1) 25 #[.int .i64 k2, .int .i64 m2, .int .i64 s2, .string t2, .bool b2, .int .i64 e2] := hS.bk 2 rfl rfl
          have f0 := kb.cell 0
          have f1 := kb.cell 1
          have f2 := kb.cell 2
          have f3 := kb.cell 3
          have f4 := kb.cell 4
          have f5 := kb.cell 5
          clear kb
          go_simp
          exact ⟨⟨fun d hd => by injection hd with hd; subst hd; rfl, fun h => by cases h⟩, hS, trivial⟩
      · as_aux_lemma =>
          intro vals a W hS hL
          have e41 : a.tmps.getD 41 undef = .agg #[.int .i64 k1, .int .i64 m1, .int .i64 s1, .string t1, .bool b1, .int .i64 e1] := hL.1
          have e42 : a.tmps.getD 42 undef = .agg #[.int .i64 k2, .int .i64 m2, .int .i64 s2, .string t2, .bool b2, .int .i64 e2] := hL.2.1
          have e40 : a.tmps.getD 40 undef = .bool false := hL.2.2.1
          clear hL
          refine ⟨false, e40, ?_⟩
          rw [if_pos rfl]
          go_simp
          refine (HSM.out W).mono ?_
          rintro e W' ⟨rfl, hb⟩
          exact ⟨_, rfl, ⟨fun d hd => by injection hd with hd; subst hd; rfl, fun h => by cases h⟩, hS.call hb, trivial⟩
      · as_aux_lemma =>
          intro vals a W hS hL
          have e5 : a.tmps.getD 5 undef = .pointer (some ⟨g0, 0, none⟩) := hL.1
          have e40 : a.tmps.getD 40 undef = .bool false := hL.2.1
          clear hL
          refine ⟨false, e40, ?_⟩
          rw [if_pos rfl]
          have kb : Bk W (g0) 29 #[.int .i64 k1, .int .i64 m1, .int .i64 s1, .string t1, .bool b1, .int .i64 e1] := hS.bk 1 rfl rfl
          have f0 := kb.cell 0
          have f1 := kb.cell 1
          have f2 := kb.cell 2
          have f3 := kb.cell 3
          have f4 := kb.cell 4
          have f5 := kb.cell 5
          clear kb
          go_simp
          exact ⟨⟨fun d hd => by injection hd with hd; subst hd; rfl, fun h => by cases h⟩, hS, trivial⟩
      · as_aux_lemma =>
          intro vals a W hS hL
          have e6 : a.tmps.getD 6 undef = .pointer (some ⟨g1, 0, none⟩) := hL.1
          have e40 : a.tmps.getD 40 undef = .bool false := hL.2.1
          clear hL
          refine ⟨false, e40, ?_⟩
          rw [if_pos rfl]
          have kb : Bk W (g1) 29 #[.int .i64 k2, .int .i64 m2, .int .i64 s2, .string t2, .bool b2, .int .i64 e2] := hS.bk 0 rfl rfl
          have f0 := kb.cell 0
          have f1 := kb.cell 1
          have f2 := kb.cell 2
          have f3 := kb.cell 3
          have f4 := kb.cell 4
          have f5 := kb.cell 5
          clear kb
          go_simp
          exact ⟨⟨fun d hd => by injection hd with hd; subst hd; rfl, fun h => by cases h⟩, hS, trivial⟩
      · as_aux_lemma =>
          intro vals a W hS hL
          have e44 : a.tmps.getD 44 undef = .agg #[.int .i64 k1, .int .i64 m1, .int .i64 s1, .string t1, .bool b1, .int .i64 e1] := hL.1
          have e45 : a.tmps.getD 45 undef = .agg #[.int .i64 k2, .int .i64 m2, .int .i64 s2, .string t2, .bool b2, .int .i64 e2] := hL.2.1
          have e40 : a.tmps.getD 40 undef = .bool false := hL.2.2.1
          clear hL
          refine ⟨false, e40, ?_⟩
          rw [if_pos rfl]
          rw [Array.getD_eq_getD_getElem?] at e44 e45
          go_simp
          repeat' split
          all_goals first | (have hE : E = true := by (rw [← HE.out]; exact decide_eq_true ⟨by assumption, by assumption, by assumption, toList_inj (by assumption), by simp_all, by assumption⟩)); (subst hE; exact ⟨⟨fun d hd => by injection hd with hd; subst hd; rfl, fun h => by cases h⟩, hS, trivial⟩) | (have hE : E = false := by (rw [← HE.out]; exact decide_eq_false (fun h => by obtain ⟨q1, q2, q3, q4, q5, q6⟩ := h; simp_all))); (subst hE; exact ⟨⟨fun d hd => by injection hd with hd; subst hd; rfl, fun h => by cases h⟩, hS, trivial⟩)
      · as_aux_lemma =>
          intro vals a W hS hL
          have e43 : a.tmps.getD 43 undef = .bool E := hL.1
          have e46 : a.tmps.getD 46 undef = .bool E := hL.2.1
          have e40 : a.tmps.getD 40 undef = .bool false := hL.2.2.1
          clear hL
          refine ⟨false, e40, ?_⟩
          rw [if_pos rfl]
          go_simp
          exact ⟨⟨fun d hd => by injection hd with hd; subst hd; rfl, fun h => by cases h⟩, hS, trivial⟩
      · as_aux_lemma =>
          intro vals a W hS hL
          have e40 : a.tmps.getD 40 undef = .bool false := hL.1
          have e47 : a.tmps.getD 47 undef = .bool false := hL.2.1
          clear hL
          go_simp
          exact ⟨⟨fun d hd => by injection hd with hd; subst hd; rfl, fun h => by cases h⟩, hS, trivial⟩
    · intro a W' vals hd hsz hT hF hv hP hS
      obtain rfl : vals = [] := List.eq_nil_of_length_eq_zero hv
      have hS2 : SX w 2 ([] : List Stp) [] ([(g1, 29, #[.int .i64 k2, .int .i64 m2, .int .i64 s2, .string t2, .bool b2, .int .i64 e2]), (g0, 29, #[.int .i64 k1, .int .i64 m1, .int .i64 s1, .string t1, .bool b1, .int .i64 e1]), (w.heap.size + 1, 25, #[.int .i64 k2, .int .i64 m2, .int .i64 s2, .string t2, .bool b2, .int .i64 e2]), (w.heap.size, 25, #[.int .i64 k1, .int .i64 m1, .int .i64 s1, .string t1, .bool b1, .int .i64 e1])] : List (Nat × TypeId × Array Value)) W' := hS
      clear hS
      have hB0 := hS2
      have hB : SB w 2 ([(g1, 29, #[.int .i64 k2, .int .i64 m2, .int .i64 s2, .string t2, .bool b2, .int .i64 e2]), (g0, 29, #[.int .i64 k1, .int .i64 m1, .int .i64 s1, .string t1, .bool b1, .int .i64 e1]), (w.heap.size + 1, 25, #[.int .i64 k2, .int .i64 m2, .int .i64 s2, .string t2, .bool b2, .int .i64 e2]), (w.heap.size, 25, #[.int .i64 k1, .int .i64 m1, .int .i64 s1, .string t1, .bool b1, .int .i64 e1])] : List (Nat × TypeId × Array Value)) W' := hB0
      clear hB0
      have e2 : a.tmps.getD 2 undef = .pointer (some ⟨w.heap.size, 0, none⟩) := hT 2 (by simp)
      have e3 : a.tmps.getD 3 undef = .pointer (some ⟨w.heap.size + 1, 0, none⟩) := hT 3 (by simp)
      have e5 : a.tmps.getD 5 undef = .pointer (some ⟨g0, 0, none⟩) := hT 5 (by simp)
      have e6 : a.tmps.getD 6 undef = .pointer (some ⟨g1, 0, none⟩) := hT 6 (by simp)
      have e48 : a.tmps.getD 48 undef = .bool false := hT 48 (by simp)
      clear hT hF hP
      rw [act_lit 150 a hd hsz]
      simp only [List.range, List.range.loop, List.map, e2, e3, e5, e6, e48]
      clear hd hsz e2 e3 e5 e6 e48
      clear HB
      have HB := Lib.hid hB
      clear hB
      have kf0_ := HB.out.box (i := 1) rfl
      have cf0_0 := kf0_.cell 0
      have cf0_1 := kf0_.cell 1
      have cf0_2 := kf0_.cell 2
      have cf0_3 := kf0_.cell 3
      have cf0_4 := kf0_.cell 4
      have cf0_5 := kf0_.cell 5
      clear kf0_
      go_wp2_with fail
      refine (HBK1.out _).mono ?_
      rintro x w2 ⟨rfl, hb⟩
      have hB := HB.out.call hb
      clear cf0_0 cf0_1 cf0_2 cf0_3 cf0_4 cf0_5
      clear hb HB
      have HB : Hid (SB w 2 ([(g1, 29, #[.int .i64 k2, .int .i64 m2, .int .i64 s2, .string t2, .bool b2, .int .i64 e2]), (g0, 29, #[.int .i64 k1, .int .i64 m1, .int .i64 s1, .string t1, .bool b1, .int .i64 e1]), (w.heap.size + 1, 25, #[.int .i64 k2, .int .i64 m2, .int .i64 s2, .string t2, .bool b2, .int .i64 e2]), (w.heap.size, 25, #[.int .i64 k1, .int .i64 m1, .int .i64 s1, .string t1, .bool b1, .int .i64 e1])] : List (Nat × TypeId × Array Value)) w2) := Lib.hid (by simpa using hB)
      clear hB
      have kf0_ := HB.out.box (i := 0) rfl
      have cf0_0 := kf0_.cell 0
      have cf0_1 := kf0_.cell 1
      have cf0_2 := kf0_.cell 2
      have cf0_3 := kf0_.cell 3
      have cf0_4 := kf0_.cell 4
      have cf0_5 := kf0_.cell 5
      clear kf0_
      go_wp2_with fail
      refine (HBK2.out _).mono ?_
      rintro x w3 ⟨rfl, hb⟩
      have hB := HB.out.call hb
      clear cf0_0 cf0_1 cf0_2 cf0_3 cf0_4 cf0_5
      clear hb HB
      have HB : Hid (SB w 2 ([(g1, 29, #[.int .i64 k2, .int .i64 m2, .int .i64 s2, .string t2, .bool b2, .int .i64 e2]), (g0, 29, #[.int .i64 k1, .int .i64 m1, .int .i64 s1, .string t1, .bool b1, .int .i64 e1]), (w.heap.size + 1, 25, #[.int .i64 k2, .int .i64 m2, .int .i64 s2, .string t2, .bool b2, .int .i64 e2]), (w.heap.size, 25, #[.int .i64 k1, .int .i64 m1, .int .i64 s1, .string t1, .bool b1, .int .i64 e1])] : List (Nat × TypeId × Array Value)) w3) := Lib.hid (by simpa using hB)
      clear hB
      have kf0_ := HB.out.box (i := 3) rfl
      have cf0_0 := kf0_.cell 0
      have cf0_1 := kf0_.cell 1
      have cf0_2 := kf0_.cell 2
      have cf0_3 := kf0_.cell 3
      have cf0_4 := kf0_.cell 4
      have cf0_5 := kf0_.cell 5
      clear kf0_
      go_wp2_with fail
      refine (HNU.out _).mono ?_
      rintro x w4 ⟨rfl, hb⟩
      have hB := HB.out.call hb
      clear cf0_0 cf0_1 cf0_2 cf0_3 cf0_4 cf0_5
      have l4_0 := (hB.box (i := 0) rfl).lt
      have l4_1 := (hB.box (i := 1) rfl).lt
      have l4_2 := (hB.box (i := 2) rfl).lt
      have l4_3 := (hB.box (i := 3) rfl).lt
      have hB := hB.alloc 23 #[.int .i64 n1, .int .i64 n2]
      have hB := hB.alloc 25 #[.int .i64 p0, .int .i64 p1, .int .i64 p2, .string p3, .bool p4, .int .i64 p5]
      clear hb HB
      have HB : Hid (SB w 2 ([(w4.heap.size + 1, 25, #[.int .i64 p0, .int .i64 p1, .int .i64 p2, .string p3, .bool p4, .int .i64 p5]), (w4.heap.size, 23, #[.int .i64 n1, .int .i64 n2]), (g1, 29, #[.int .i64 k2, .int .i64 m2, .int .i64 s2, .string t2, .bool b2, .int .i64 e2]), (g0, 29, #[.int .i64 k1, .int .i64 m1, .int .i64 s1, .string t1, .bool b1, .int .i64 e1]), (w.heap.size + 1, 25, #[.int .i64 k2, .int .i64 m2, .int .i64 s2, .string t2, .bool b2, .int .i64 e2]), (w.heap.size, 25, #[.int .i64 k1, .int .i64 m1, .int .i64 s1, .string t1, .bool b1, .int .i64 e1])] : List (Nat × TypeId × Array Value)) ((w4.alloc (.cells #[.int .i64 n1, .int .i64 n2] 23)).alloc (.cells #[.int .i64 p0, .int .i64 p1, .int .i64 p2, .string p3, .bool p4, .int .i64 p5] 25))) := Lib.hid (by simpa using hB)
      clear hB
      have kf0_ := HB.out.box (i := 3) rfl
      have cf0_0 := kf0_.cell 0
      have cf0_1 := kf0_.cell 1
      have cf0_2 := kf0_.cell 2
      have cf0_3 := kf0_.cell 3
      have cf0_4 := kf0_.cell 4
      have cf0_5 := kf0_.cell 5
      clear kf0_
      go_wp2_with fail
      refine (HBNU.out _).mono ?_
      rintro x w5 ⟨rfl, hb⟩
      have hB := HB.out.call hb
      clear cf0_0 cf0_1 cf0_2 cf0_3 cf0_4 cf0_5
      have l5_0 := (hB.box (i := 0) rfl).lt
      have l5_1 := (hB.box (i := 1) rfl).lt
      have l5_2 := (hB.box (i := 2) rfl).lt
      have l5_3 := (hB.box (i := 3) rfl).lt
      have l5_4 := (hB.box (i := 4) rfl).lt
      have l5_5 := (hB.box (i := 5) rfl).lt
      have hB := hB.alloc 27 #[.int .i64 n1, .int .i64 n2]
      have hB := hB.alloc 29 #[.int .i64 p0, .int .i64 p1, .int .i64 p2, .string p3, .bool p4, .int .i64 p5]
      clear hb HB
      have HB : Hid (SB w 2 ([(w5.heap.size + 1, 29, #[.int .i64 p0, .int .i64 p1, .int .i64 p2, .string p3, .bool p4, .int .i64 p5]), (w5.heap.size, 27, #[.int .i64 n1, .int .i64 n2]), (w4.heap.size + 1, 25, #[.int .i64 p0, .int .i64 p1, .int .i64 p2, .string p3, .bool p4, .int .i64 p5]), (w4.heap.size, 23, #[.int .i64 n1, .int .i64 n2]), (g1, 29, #[.int .i64 k2, .int .i64 m2, .int .i64 s2, .string t2, .bool b2, .int .i64 e2]), (g0, 29, #[.int .i64 k1, .int .i64 m1, .int .i64 s1, .string t1, .bool b1, .int .i64 e1]), (w.heap.size + 1, 25, #[.int .i64 k2, .int .i64 m2, .int .i64 s2, .string t2, .bool b2, .int .i64 e2]), (w.heap.size, 25, #[.int .i64 k1, .int .i64 m1, .int .i64 s1, .string t1, .bool b1, .int .i64 e1])] : List (Nat × TypeId × Array Value)) ((w5.alloc (.cells #[.int .i64 n1, .int .i64 n2] 27)).alloc (.cells #[.int .i64 p0, .int .i64 p1, .int .i64 p2, .string p3, .bool p4, .int .i64 p5] 29))) := Lib.hid (by simpa using hB)
      clear hB
      go_wp2_with fail
      refine wp_region_phases (S := (fun vals W => SX w 2 ([] : List Stp) vals ([(w5.heap.size + 1, 29, #[.int .i64 p0, .int .i64 p1, .int .i64 p2, .string p3, .bool p4, .int .i64 p5]), (w5.heap.size, 27, #[.int .i64 n1, .int .i64 n2]), (w4.heap.size + 1, 25, #[.int .i64 p0, .int .i64 p1, .int .i64 p2, .string p3, .bool p4, .int .i64 p5]), (w4.heap.size, 23, #[.int .i64 n1, .int .i64 n2]), (g1, 29, #[.int .i64 k2, .int .i64 m2, .int .i64 s2, .string t2, .bool b2, .int .i64 e2]), (g0, 29, #[.int .i64 k1, .int .i64 m1, .int .i64 s1, .string t1, .bool b1, .int .i64 e1]), (w.heap.size + 1, 25, #[.int .i64 k2, .int .i64 m2, .int .i64 s2, .string t2, .bool b2, .int .i64 e2]), (w.heap.size, 25, #[.int .i64 k1, .int .i64 m1, .int .i64 s1, .string t1, .bool b1, .int .i64 e1])] : List (Nat × TypeId × Array Value)) W)) (E := (fun _ _ => True)) [] [(2, Is (.pointer (some ⟨w.heap.size, 0, none⟩))), (3, Is (.pointer (some ⟨w.heap.size + 1, 0, none⟩))), (5, Is (.pointer (some ⟨g0, 0, none⟩))), (6, Is (.pointer (some ⟨g1, 0, none⟩))), (7, Is (.pointer (some ⟨w4.heap.size, 0, none⟩))), (8, Is (.pointer (some ⟨w4.heap.size + 1, 0, none⟩))), (10, Is (.pointer (some ⟨w5.heap.size, 0, none⟩))), (11, Is (.pointer (some ⟨w5.heap.size + 1, 0, none⟩))), (9, Is (.bool ok1)), (12, Is (.bool ok1))] [(69, Is (.agg #[.int .i64 n1, .int .i64 n2])), (70, Is (.agg #[.int .i64 n1, .int .i64 n2])), (71, Is (.agg #[.int .i64 n1, .int .i64 n2])), (72, Is (.bool false)), (73, Is (.bool false)), (74, Is (.agg #[.int .i64 p0, .int .i64 p1, .int .i64 p2, .string p3, .bool p4, .int .i64 p5])), (75, Is (.agg #[.int .i64 p0, .int .i64 p1, .int .i64 p2, .string p3, .bool p4, .int .i64 p5])), (76, Is (.agg #[.int .i64 p0, .int .i64 p1, .int .i64 p2, .string p3, .bool p4, .int .i64 p5])), (77, Is (.bool false)), (78, Is (.bool false)), (79, Is (.bool false)), (80, Is (.bool ok1)), (81, Is (.bool ok1)), (82, Is (.bool false)), (83, Is (.bool false))]
        [.op [7] none, .op [69] none, .op [10] none, .op [70, 71] none, .op [72] none, .op [8, 73] (some (73, false)), .op [74, 73] (some (73, false)), .op [11, 73] (some (73, false)), .op [75, 76, 73] (some (73, false)), .op [73, 77] none, .op [78] none, .op [9, 79] (some (79, false)), .op [12, 79] (some (79, false)), .op [80, 81, 79] (some (79, false)), .op [79, 82] none] (by as_aux_lemma => kernel_rfl) ?_ ?_ ?_ ?_ ?_ ⟨stable_is _ _, stable_is _ _, stable_is _ _, stable_is _ _, stable_is _ _, stable_is _ _, stable_is _ _, stable_is _ _, stable_is _ _, stable_is _ _, stable_is _ _, stable_is _ _, stable_is _ _, stable_is _ _, stable_is _ _, stable_is _ _, stable_is _ _, stable_is _ _, stable_is _ _, stable_is _ _, stable_is _ _, stable_is _ _, stable_is _ _, stable_is _ _, stable_is _ _, trivial⟩ ?_ (HB.out.drew) ?_ ?_
      · as_aux_lemma => kernel_rfl
      · as_aux_lemma => kernel_rfl
      · as_aux_lemma => kernel_rfl
      · as_aux_lemma => kernel_rfl
      · as_aux_lemma => kernel_rfl
      · exact ⟨rfl, rfl, rfl, rfl, rfl, rfl, rfl, rfl, rfl, rfl, trivial⟩
      · refine ⟨?_, ?_, ?_, ?_, ?_, ?_, ?_, ?_, ?_, ?_, ?_, ?_, ?_, ?_, ?_, trivial⟩
        · as_aux_lemma =>
            intro vals a W hS hL
            have e7 : a.tmps.getD 7 undef = .pointer (some ⟨w4.heap.size, 0, none⟩) := hL.1
            clear hL
            have kb : Bk W (w4.heap.size) 23 #[.int .i64 n1, .int .i64 n2] := hS.bk 3 rfl rfl
            have f0 := kb.cell 0
            have f1 := kb.cell 1
            clear kb
            go_simp
            exact ⟨⟨fun d hd => by injection hd with hd; subst hd; rfl, fun h => by cases h⟩, hS, trivial⟩
        · as_aux_lemma =>
            intro vals a W hS hL
            have e69 : a.tmps.getD 69 undef = .agg #[.int .i64 n1, .int .i64 n2] := hL.1
            clear hL
            go_simp
            refine (HO4.out W).mono ?_
            rintro e W' ⟨rfl, hb⟩
            exact ⟨_, rfl, ⟨fun d hd => by injection hd with hd; subst hd; rfl, fun h => by cases h⟩, hS.call hb, trivial⟩
        · as_aux_lemma =>
            intro vals a W hS hL
            have e10 : a.tmps.getD 10 undef = .pointer (some ⟨w5.heap.size, 0, none⟩) := hL.1
            clear hL
            have kb : Bk W (w5.heap.size) 27 #[.int .i64 n1, .int .i64 n2] := hS.bk 1 rfl rfl
            have f0 := kb.cell 0
            have f1 := kb.cell 1
            clear kb
            go_simp
            exact ⟨⟨fun d hd => by injection hd with hd; subst hd; rfl, fun h => by cases h⟩, hS, trivial⟩
        · as_aux_lemma =>
            intro vals a W hS hL
            have e70 : a.tmps.getD 70 undef = .agg #[.int .i64 n1, .int .i64 n2] := hL.1
            have e71 : a.tmps.getD 71 undef = .agg #[.int .i64 n1, .int .i64 n2] := hL.2.1
            clear hL
            go_simp
            exact ⟨⟨fun d hd => by injection hd with hd; subst hd; rfl, fun h => by cases h⟩, hS, trivial⟩
        · as_aux_lemma =>
            intro vals a W hS hL
            have e72 : a.tmps.getD 72 undef = .bool false := hL.1
            clear hL
            go_simp
            exact ⟨⟨fun d hd => by injection hd with hd; subst hd; rfl, fun h => by cases h⟩, hS, trivial⟩
        · as_aux_lemma =>
            intro vals a W hS hL
            have e8 : a.tmps.getD 8 undef = .pointer (some ⟨w4.heap.size + 1, 0, none⟩) := hL.1
            have e73 : a.tmps.getD 73 undef = .bool false := hL.2.1
            clear hL
            refine ⟨false, e73, ?_⟩
            rw [if_pos rfl]
            have kb : Bk W (w4.heap.size + 1) 25 #[.int .i64 p0, .int .i64 p1, .int .i64 p2, .string p3, .bool p4, .int .i64 p5] := hS.bk 2 rfl rfl
            have f0 := kb.cell 0
            have f1 := kb.cell 1
            have f2 := kb.cell 2
            have f3 := kb.cell 3
            have f4 := kb.cell 4
            have f5 := kb.cell 5
            clear kb
            go_simp
            exact ⟨⟨fun d hd => by injection hd with hd; subst hd; rfl, fun h => by cases h⟩, hS, trivial⟩
        · as_aux_lemma =>
            intro vals a W hS hL
            have e74 : a.tmps.getD 74 undef = .agg #[.int .i64 p0, .int .i64 p1, .int .i64 p2, .string p3, .bool p4, .int .i64 p5] := hL.1
            have e73 : a.tmps.getD 73 undef = .bool false := hL.2.1
            clear hL
            refine ⟨false, e73, ?_⟩
            rw [if_pos rfl]
            go_simp
            refine (HOp.out W).mono ?_
            rintro e W' ⟨rfl, hb⟩
            exact ⟨_, rfl, ⟨fun d hd => by injection hd with hd; subst hd; rfl, fun h => by cases h⟩, hS.call hb, trivial⟩
        · as_aux_lemma =>
            intro vals a W hS hL
            have e11 : a.tmps.getD 11 undef = .pointer (some ⟨w5.heap.size + 1, 0, none⟩) := hL.1
            have e73 : a.tmps.getD 73 undef = .bool false := hL.2.1
            clear hL
            refine ⟨false, e73, ?_⟩
            rw [if_pos rfl]
            have kb : Bk W (w5.heap.size + 1) 29 #[.int .i64 p0, .int .i64 p1, .int .i64 p2, .string p3, .bool p4, .int .i64 p5] := hS.bk 0 rfl rfl
            have f0 := kb.cell 0
            have f1 := kb.cell 1
            have f2 := kb.cell 2
            have f3 := kb.cell 3
            have f4 := kb.cell 4
            have f5 := kb.cell 5
            clear kb
            go_simp
            exact ⟨⟨fun d hd => by injection hd with hd; subst hd; rfl, fun h => by cases h⟩, hS, trivial⟩
        · as_aux_lemma =>
            intro vals a W hS hL
            have e75 : a.tmps.getD 75 undef = .agg #[.int .i64 p0, .int .i64 p1, .int .i64 p2, .string p3, .bool p4, .int .i64 p5] := hL.1
            have e76 : a.tmps.getD 76 undef = .agg #[.int .i64 p0, .int .i64 p1, .int .i64 p2, .string p3, .bool p4, .int .i64 p5] := hL.2.1
            have e73 : a.tmps.getD 73 undef = .bool false := hL.2.2.1
            clear hL
            refine ⟨false, e73, ?_⟩
            rw [if_pos rfl]
            go_simp
            exact ⟨⟨fun d hd => by injection hd with hd; subst hd; rfl, fun h => by cases h⟩, hS, trivial⟩
        · as_aux_lemma =>
            intro vals a W hS hL
            have e73 : a.tmps.getD 73 undef = .bool false := hL.1
            have e77 : a.tmps.getD 77 undef = .bool false := hL.2.1
            clear hL
            go_simp
            exact ⟨⟨fun d hd => by injection hd with hd; subst hd; rfl, fun h => by cases h⟩, hS, trivial⟩
        · as_aux_lemma =>
            intro vals a W hS hL
            have e78 : a.tmps.getD 78 undef = .bool false := hL.1
            clear hL
            go_simp
            exact ⟨⟨fun d hd => by injection hd with hd; subst hd; rfl, fun h => by cases h⟩, hS, trivial⟩
        · as_aux_lemma =>
            intro vals a W hS hL
            have e9 : a.tmps.getD 9 undef = .bool ok1 := hL.1
            have e79 : a.tmps.getD 79 undef = .bool false := hL.2.1
            clear hL
            refine ⟨false, e79, ?_⟩
            rw [if_pos rfl]
            go_simp
            exact ⟨⟨fun d hd => by injection hd with hd; subst hd; rfl, fun h => by cases h⟩, hS, trivial⟩
        · as_aux_lemma =>
            intro vals a W hS hL
            have e12 : a.tmps.getD 12 undef = .bool ok1 := hL.1
            have e79 : a.tmps.getD 79 undef = .bool false := hL.2.1
            clear hL
            refine ⟨false, e79, ?_⟩
            rw [if_pos rfl]
            go_simp
            exact ⟨⟨fun d hd => by injection hd with hd; subst hd; rfl, fun h => by cases h⟩, hS, trivial⟩
        · as_aux_lemma =>
            intro vals a W hS hL
            have e80 : a.tmps.getD 80 undef = .bool ok1 := hL.1
            have e81 : a.tmps.getD 81 undef = .bool ok1 := hL.2.1
            have e79 : a.tmps.getD 79 undef = .bool false := hL.2.2.1
            clear hL
            refine ⟨false, e79, ?_⟩
            rw [if_pos rfl]
            go_simp
            exact ⟨⟨fun d hd => by injection hd with hd; subst hd; rfl, fun h => by cases h⟩, hS, trivial⟩
        · as_aux_lemma =>
            intro vals a W hS hL
            have e79 : a.tmps.getD 79 undef = .bool false := hL.1
            have e82 : a.tmps.getD 82 undef = .bool false := hL.2.1
            clear hL
            go_simp
            exact ⟨⟨fun d hd => by injection hd with hd; subst hd; rfl, fun h => by cases h⟩, hS, trivial⟩
      · intro a W' vals hd hsz hT hF hv hP hS
        obtain rfl : vals = [] := List.eq_nil_of_length_eq_zero hv
        have hS2 : SX w 2 ([] : List Stp) [] ([(w5.heap.size + 1, 29, #[.int .i64 p0, .int .i64 p1, .int .i64 p2, .string p3, .bool p4, .int .i64 p5]), (w5.heap.size, 27, #[.int .i64 n1, .int .i64 n2]), (w4.heap.size + 1, 25, #[.int .i64 p0, .int .i64 p1, .int .i64 p2, .string p3, .bool p4, .int .i64 p5]), (w4.heap.size, 23, #[.int .i64 n1, .int .i64 n2]), (g1, 29, #[.int .i64 k2, .int .i64 m2, .int .i64 s2, .string t2, .bool b2, .int .i64 e2]), (g0, 29, #[.int .i64 k1, .int .i64 m1, .int .i64 s1, .string t1, .bool b1, .int .i64 e1]), (w.heap.size + 1, 25, #[.int .i64 k2, .int .i64 m2, .int .i64 s2, .string t2, .bool b2, .int .i64 e2]), (w.heap.size, 25, #[.int .i64 k1, .int .i64 m1, .int .i64 s1, .string t1, .bool b1, .int .i64 e1])] : List (Nat × TypeId × Array Value)) W' := hS
        clear hS
        have hB0 := hS2
        have hB : SB w 2 ([(w5.heap.size + 1, 29, #[.int .i64 p0, .int .i64 p1, .int .i64 p2, .string p3, .bool p4, .int .i64 p5]), (w5.heap.size, 27, #[.int .i64 n1, .int .i64 n2]), (w4.heap.size + 1, 25, #[.int .i64 p0, .int .i64 p1, .int .i64 p2, .string p3, .bool p4, .int .i64 p5]), (w4.heap.size, 23, #[.int .i64 n1, .int .i64 n2]), (g1, 29, #[.int .i64 k2, .int .i64 m2, .int .i64 s2, .string t2, .bool b2, .int .i64 e2]), (g0, 29, #[.int .i64 k1, .int .i64 m1, .int .i64 s1, .string t1, .bool b1, .int .i64 e1]), (w.heap.size + 1, 25, #[.int .i64 k2, .int .i64 m2, .int .i64 s2, .string t2, .bool b2, .int .i64 e2]), (w.heap.size, 25, #[.int .i64 k1, .int .i64 m1, .int .i64 s1, .string t1, .bool b1, .int .i64 e1])] : List (Nat × TypeId × Array Value)) W' := hB0
        clear hB0
        have e2 : a.tmps.getD 2 undef = .pointer (some ⟨w.heap.size, 0, none⟩) := hT 2 (by simp)
        have e3 : a.tmps.getD 3 undef = .pointer (some ⟨w.heap.size + 1, 0, none⟩) := hT 3 (by simp)
        have e5 : a.tmps.getD 5 undef = .pointer (some ⟨g0, 0, none⟩) := hT 5 (by simp)
        have e6 : a.tmps.getD 6 undef = .pointer (some ⟨g1, 0, none⟩) := hT 6 (by simp)
        have e7 : a.tmps.getD 7 undef = .pointer (some ⟨w4.heap.size, 0, none⟩) := hT 7 (by simp)
        have e8 : a.tmps.getD 8 undef = .pointer (some ⟨w4.heap.size + 1, 0, none⟩) := hT 8 (by simp)
        have e9 : a.tmps.getD 9 undef = .bool ok1 := hT 9 (by simp)
        have e10 : a.tmps.getD 10 undef = .pointer (some ⟨w5.heap.size, 0, none⟩) := hT 10 (by simp)
        have e11 : a.tmps.getD 11 undef = .pointer (some ⟨w5.heap.size + 1, 0, none⟩) := hT 11 (by simp)
        have e12 : a.tmps.getD 12 undef = .bool ok1 := hT 12 (by simp)
        have e83 : a.tmps.getD 83 undef = .bool false := hT 83 (by simp)
        clear hT hF hP
        rw [act_lit 150 a hd hsz]
        simp only [List.range, List.range.loop, List.map, e2, e3, e5, e6, e7, e8, e9, e10, e11, e12, e83]
        clear hd hsz e2 e3 e5 e6 e7 e8 e9 e10 e11 e12 e83
        clear HB
        have HB := Lib.hid hB
        clear hB
        have kf0_ := HB.out.box (i := 7) rfl
        have cf0_0 := kf0_.cell 0
        have cf0_1 := kf0_.cell 1
        have cf0_2 := kf0_.cell 2
        have cf0_3 := kf0_.cell 3
        have cf0_4 := kf0_.cell 4
        have cf0_5 := kf0_.cell 5
        clear kf0_
        go_wp2_with fail
        refine (HWO.out _ HB.out.bel).mono ?_
        rintro x w6 ⟨rfl, hb⟩
        have hB := HB.out.call hb
        clear cf0_0 cf0_1 cf0_2 cf0_3 cf0_4 cf0_5
        clear hb HB
        have hF := hB.put6 (i := 2) rfl (by omega) (by simp [butBox] <;> omega) (.int .i64 q0 : Value) (.int .i64 q1 : Value) (.int .i64 q2 : Value) (.string q3 : Value) (.bool q4 : Value) (.int .i64 q5 : Value)
        have ks := hB.box (i := 2) rfl
        have cs0 := ks.cell 0
        have zs0 := ks.frozen 0
        have cs1 := ks.cell 1
        have zs1 := ks.frozen 1
        have cs2 := ks.cell 2
        have zs2 := ks.frozen 2
        have cs3 := ks.cell 3
        have zs3 := ks.frozen 3
        have cs4 := ks.cell 4
        have zs4 := ks.frozen 4
        have cs5 := ks.cell 5
        have zs5 := ks.frozen 5
        clear ks
        clear hB
        have HB : Hid (SB w 2 ([(w5.heap.size + 1, 29, #[.int .i64 p0, .int .i64 p1, .int .i64 p2, .string p3, .bool p4, .int .i64 p5]), (w5.heap.size, 27, #[.int .i64 n1, .int .i64 n2]), (w4.heap.size + 1, 25, #[.int .i64 q0, .int .i64 q1, .int .i64 q2, .string q3, .bool q4, .int .i64 q5]), (w4.heap.size, 23, #[.int .i64 n1, .int .i64 n2]), (g1, 29, #[.int .i64 k2, .int .i64 m2, .int .i64 s2, .string t2, .bool b2, .int .i64 e2]), (g0, 29, #[.int .i64 k1, .int .i64 m1, .int .i64 s1, .string t1, .bool b1, .int .i64 e1]), (w.heap.size + 1, 25, #[.int .i64 k2, .int .i64 m2, .int .i64 s2, .string t2, .bool b2, .int .i64 e2]), (w.heap.size, 25, #[.int .i64 k1, .int .i64 m1, .int .i64 s1, .string t1, .bool b1, .int .i64 e1])] : List (Nat × TypeId × Array Value)) ((((((w6.setCell ⟨w4.heap.size + 1, 0, none⟩ (.int .i64 q0)).setCell ⟨w4.heap.size + 1, 1, none⟩ (.int .i64 q1)).setCell ⟨w4.heap.size + 1, 2, none⟩ (.int .i64 q2)).setCell ⟨w4.heap.size + 1, 3, none⟩ (.string q3)).setCell ⟨w4.heap.size + 1, 4, none⟩ (.bool q4)).setCell ⟨w4.heap.size + 1, 5, none⟩ (.int .i64 q5))) := Lib.hid (by simpa [setBox] using hF)
        clear hF
        have kf0_ := HB.out.box (i := 5) rfl
        have cf0_0 := kf0_.cell 0
        have cf0_1 := kf0_.cell 1
        have cf0_2 := kf0_.cell 2
        have cf0_3 := kf0_.cell 3
        have cf0_4 := kf0_.cell 4
        have cf0_5 := kf0_.cell 5
        clear kf0_
        go_wp2_with fail
        refine (HBWO.out _).mono ?_
        rintro x w7 ⟨rfl, hb⟩
        have hB := HB.out.call hb
        clear cs0 cs1 cs2 cs3 cs4 cs5 zs0 zs1 zs2 zs3 zs4 zs5
        clear cf0_0 cf0_1 cf0_2 cf0_3 cf0_4 cf0_5
        clear hb HB
        have hF := hB.put6 (i := 0) rfl (by omega) (by simp [butBox] <;> omega) (.int .i64 q0 : Value) (.int .i64 q1 : Value) (.int .i64 q2 : Value) (.string q3 : Value) (.bool q4 : Value) (.int .i64 q5 : Value)
        have ks := hB.box (i := 0) rfl
        have cs0 := ks.cell 0
        have zs0 := ks.frozen 0
        have cs1 := ks.cell 1
        have zs1 := ks.frozen 1
        have cs2 := ks.cell 2
        have zs2 := ks.frozen 2
        have cs3 := ks.cell 3
        have zs3 := ks.frozen 3
        have cs4 := ks.cell 4
        have zs4 := ks.frozen 4
        have cs5 := ks.cell 5
        have zs5 := ks.frozen 5
        clear ks
        clear hB
        have HB : Hid (SB w 2 ([(w5.heap.size + 1, 29, #[.int .i64 q0, .int .i64 q1, .int .i64 q2, .string q3, .bool q4, .int .i64 q5]), (w5.heap.size, 27, #[.int .i64 n1, .int .i64 n2]), (w4.heap.size + 1, 25, #[.int .i64 q0, .int .i64 q1, .int .i64 q2, .string q3, .bool q4, .int .i64 q5]), (w4.heap.size, 23, #[.int .i64 n1, .int .i64 n2]), (g1, 29, #[.int .i64 k2, .int .i64 m2, .int .i64 s2, .string t2, .bool b2, .int .i64 e2]), (g0, 29, #[.int .i64 k1, .int .i64 m1, .int .i64 s1, .string t1, .bool b1, .int .i64 e1]), (w.heap.size + 1, 25, #[.int .i64 k2, .int .i64 m2, .int .i64 s2, .string t2, .bool b2, .int .i64 e2]), (w.heap.size, 25, #[.int .i64 k1, .int .i64 m1, .int .i64 s1, .string t1, .bool b1, .int .i64 e1])] : List (Nat × TypeId × Array Value)) ((((((w7.setCell ⟨w5.heap.size + 1, 0, none⟩ (.int .i64 q0)).setCell ⟨w5.heap.size + 1, 1, none⟩ (.int .i64 q1)).setCell ⟨w5.heap.size + 1, 2, none⟩ (.int .i64 q2)).setCell ⟨w5.heap.size + 1, 3, none⟩ (.string q3)).setCell ⟨w5.heap.size + 1, 4, none⟩ (.bool q4)).setCell ⟨w5.heap.size + 1, 5, none⟩ (.int .i64 q5))) := Lib.hid (by simpa [setBox] using hF)
        clear hF
        go_wp2_with fail
        clear cs0 cs1 cs2 cs3 cs4 cs5 zs0 zs1 zs2 zs3 zs4 zs5
        refine wp_region_phases (S := (fun vals W => SX w 2 ([] : List Stp) vals ([(w5.heap.size + 1, 29, #[.int .i64 q0, .int .i64 q1, .int .i64 q2, .string q3, .bool q4, .int .i64 q5]), (w5.heap.size, 27, #[.int .i64 n1, .int .i64 n2]), (w4.heap.size + 1, 25, #[.int .i64 q0, .int .i64 q1, .int .i64 q2, .string q3, .bool q4, .int .i64 q5]), (w4.heap.size, 23, #[.int .i64 n1, .int .i64 n2]), (g1, 29, #[.int .i64 k2, .int .i64 m2, .int .i64 s2, .string t2, .bool b2, .int .i64 e2]), (g0, 29, #[.int .i64 k1, .int .i64 m1, .int .i64 s1, .string t1, .bool b1, .int .i64 e1]), (w.heap.size + 1, 25, #[.int .i64 k2, .int .i64 m2, .int .i64 s2, .string t2, .bool b2, .int .i64 e2]), (w.heap.size, 25, #[.int .i64 k1, .int .i64 m1, .int .i64 s1, .string t1, .bool b1, .int .i64 e1])] : List (Nat × TypeId × Array Value)) W)) (E := (fun _ _ => True)) [] [(2, Is (.pointer (some ⟨w.heap.size, 0, none⟩))), (3, Is (.pointer (some ⟨w.heap.size + 1, 0, none⟩))), (5, Is (.pointer (some ⟨g0, 0, none⟩))), (6, Is (.pointer (some ⟨g1, 0, none⟩))), (7, Is (.pointer (some ⟨w4.heap.size, 0, none⟩))), (8, Is (.pointer (some ⟨w4.heap.size + 1, 0, none⟩))), (10, Is (.pointer (some ⟨w5.heap.size, 0, none⟩))), (11, Is (.pointer (some ⟨w5.heap.size + 1, 0, none⟩))), (9, Is (.bool ok2)), (13, Is (.string T)), (14, Is (.string T)), (15, Is (.bool ok2))] [(96, Is (.string T)), (97, Is (.string T)), (98, Is (.bool false)), (99, Is (.bool false)), (100, Is (.agg #[.int .i64 q0, .int .i64 q1, .int .i64 q2, .string q3, .bool q4, .int .i64 q5])), (101, Is (.agg #[.int .i64 q0, .int .i64 q1, .int .i64 q2, .string q3, .bool q4, .int .i64 q5])), (102, Is (.agg #[.int .i64 q0, .int .i64 q1, .int .i64 q2, .string q3, .bool q4, .int .i64 q5])), (103, Is (.bool false)), (104, Is (.bool false)), (105, Is (.bool false)), (106, Is (.bool ok2)), (107, Is (.bool ok2)), (108, Is (.bool false)), (109, Is (.bool false))]
          [.op [13] none, .op [14] none, .op [96, 97] none, .op [98] none, .op [8, 99] (some (99, false)), .op [100, 99] (some (99, false)), .op [11, 99] (some (99, false)), .op [101, 102, 99] (some (99, false)), .op [99, 103] none, .op [104] none, .op [9, 105] (some (105, false)), .op [15, 105] (some (105, false)), .op [106, 107, 105] (some (105, false)), .op [105, 108] none] (by as_aux_lemma => kernel_rfl) ?_ ?_ ?_ ?_ ?_ ⟨stable_is _ _, stable_is _ _, stable_is _ _, stable_is _ _, stable_is _ _, stable_is _ _, stable_is _ _, stable_is _ _, stable_is _ _, stable_is _ _, stable_is _ _, stable_is _ _, stable_is _ _, stable_is _ _, stable_is _ _, stable_is _ _, stable_is _ _, stable_is _ _, stable_is _ _, stable_is _ _, stable_is _ _, stable_is _ _, stable_is _ _, stable_is _ _, stable_is _ _, stable_is _ _, trivial⟩ ?_ (HB.out.drew) ?_ ?_
        · as_aux_lemma => kernel_rfl
        · as_aux_lemma => kernel_rfl
        · as_aux_lemma => kernel_rfl
        · as_aux_lemma => kernel_rfl
        · as_aux_lemma => kernel_rfl
        · exact ⟨rfl, rfl, rfl, rfl, rfl, rfl, rfl, rfl, rfl, rfl, rfl, rfl, trivial⟩
        · refine ⟨?_, ?_, ?_, ?_, ?_, ?_, ?_, ?_, ?_, ?_, ?_, ?_, ?_, ?_, trivial⟩
          · as_aux_lemma =>
              intro vals a W hS hL
              have e13 : a.tmps.getD 13 undef = .string T := hL.1
              clear hL
              go_simp
              exact ⟨⟨fun d hd => by injection hd with hd; subst hd; rfl, fun h => by cases h⟩, hS, trivial⟩
          · as_aux_lemma =>
              intro vals a W hS hL
              have e14 : a.tmps.getD 14 undef = .string T := hL.1
              clear hL
              go_simp
              exact ⟨⟨fun d hd => by injection hd with hd; subst hd; rfl, fun h => by cases h⟩, hS, trivial⟩
          · as_aux_lemma =>
              intro vals a W hS hL
              have e96 : a.tmps.getD 96 undef = .string T := hL.1
              have e97 : a.tmps.getD 97 undef = .string T := hL.2.1
              clear hL
              go_simp
              exact ⟨⟨fun d hd => by injection hd with hd; subst hd; rfl, fun h => by cases h⟩, hS, trivial⟩
          · as_aux_lemma =>
              intro vals a W hS hL
              have e98 : a.tmps.getD 98 undef = .bool false := hL.1
              clear hL
              go_simp
              exact ⟨⟨fun d hd => by injection hd with hd; subst hd; rfl, fun h => by cases h⟩, hS, trivial⟩
          · as_aux_lemma =>
              intro vals a W hS hL
              have e8 : a.tmps.getD 8 undef = .pointer (some ⟨w4.heap.size + 1, 0, none⟩) := hL.1
              have e99 : a.tmps.getD 99 undef = .bool false := hL.2.1
              clear hL
              refine ⟨false, e99, ?_⟩
              rw [if_pos rfl]
              have kb : Bk W (w4.heap.size + 1) 25 #[.int .i64 q0, .int .i64 q1, .int .i64 q2, .string q3, .bool q4, .int .i64 q5] := hS.bk 2 rfl rfl
              have f0 := kb.cell 0
              have f1 := kb.cell 1
              have f2 := kb.cell 2
              have f3 := kb.cell 3
              have f4 := kb.cell 4
              have f5 := kb.cell 5
              clear kb
              go_simp
              exact ⟨⟨fun d hd => by injection hd with hd; subst hd; rfl, fun h => by cases h⟩, hS, trivial⟩
          · as_aux_lemma =>
              intro vals a W hS hL
              have e100 : a.tmps.getD 100 undef = .agg #[.int .i64 q0, .int .i64 q1, .int .i64 q2, .string q3, .bool q4, .int .i64 q5] := hL.1
              have e99 : a.tmps.getD 99 undef = .bool false := hL.2.1
              clear hL
              refine ⟨false, e99, ?_⟩
              rw [if_pos rfl]
              go_simp
              refine (HOq.out W).mono ?_
              rintro e W' ⟨rfl, hb⟩
              exact ⟨_, rfl, ⟨fun d hd => by injection hd with hd; subst hd; rfl, fun h => by cases h⟩, hS.call hb, trivial⟩
          · as_aux_lemma =>
              intro vals a W hS hL
              have e11 : a.tmps.getD 11 undef = .pointer (some ⟨w5.heap.size + 1, 0, none⟩) := hL.1
              have e99 : a.tmps.getD 99 undef = .bool false := hL.2.1
              clear hL
              refine ⟨false, e99, ?_⟩
              rw [if_pos rfl]
              have kb : Bk W (w5.heap.size + 1) 29 #[.int .i64 q0, .int .i64 q1, .int .i64 q2, .string q3, .bool q4, .int .i64 q5] := hS.bk 0 rfl rfl
              have f0 := kb.cell 0
              have f1 := kb.cell 1
              have f2 := kb.cell 2
              have f3 := kb.cell 3
              have f4 := kb.cell 4
              have f5 := kb.cell 5
              clear kb
              go_simp
              exact ⟨⟨fun d hd => by injection hd with hd; subst hd; rfl, fun h => by cases h⟩, hS, trivial⟩
          · as_aux_lemma =>
              intro vals a W hS hL
              have e101 : a.tmps.getD 101 undef = .agg #[.int .i64 q0, .int .i64 q1, .int .i64 q2, .string q3, .bool q4, .int .i64 q5] := hL.1
              have e102 : a.tmps.getD 102 undef = .agg #[.int .i64 q0, .int .i64 q1, .int .i64 q2, .string q3, .bool q4, .int .i64 q5] := hL.2.1
              have e99 : a.tmps.getD 99 undef = .bool false := hL.2.2.1
              clear hL
              refine ⟨false, e99, ?_⟩
              rw [if_pos rfl]
              go_simp
              exact ⟨⟨fun d hd => by injection hd with hd; subst hd; rfl, fun h => by cases h⟩, hS, trivial⟩
          · as_aux_lemma =>
              intro vals a W hS hL
              have e99 : a.tmps.getD 99 undef = .bool false := hL.1
              have e103 : a.tmps.getD 103 undef = .bool false := hL.2.1
              clear hL
              go_simp
              exact ⟨⟨fun d hd => by injection hd with hd; subst hd; rfl, fun h => by cases h⟩, hS, trivial⟩
          · as_aux_lemma =>
              intro vals a W hS hL
              have e104 : a.tmps.getD 104 undef = .bool false := hL.1
              clear hL
              go_simp
              exact ⟨⟨fun d hd => by injection hd with hd; subst hd; rfl, fun h => by cases h⟩, hS, trivial⟩
          · as_aux_lemma =>
              intro vals a W hS hL
              have e9 : a.tmps.getD 9 undef = .bool ok2 := hL.1
              have e105 : a.tmps.getD 105 undef = .bool false := hL.2.1
              clear hL
              refine ⟨false, e105, ?_⟩
              rw [if_pos rfl]
              go_simp
              exact ⟨⟨fun d hd => by injection hd with hd; subst hd; rfl, fun h => by cases h⟩, hS, trivial⟩
          · as_aux_lemma =>
              intro vals a W hS hL
              have e15 : a.tmps.getD 15 undef = .bool ok2 := hL.1
              have e105 : a.tmps.getD 105 undef = .bool false := hL.2.1
              clear hL
              refine ⟨false, e105, ?_⟩
              rw [if_pos rfl]
              go_simp
              exact ⟨⟨fun d hd => by injection hd with hd; subst hd; rfl, fun h => by cases h⟩, hS, trivial⟩
          · as_aux_lemma =>
              intro vals a W hS hL
              have e106 : a.tmps.getD 106 undef = .bool ok2 := hL.1
              have e107 : a.tmps.getD 107 undef = .bool ok2 := hL.2.1
              have e105 : a.tmps.getD 105 undef = .bool false := hL.2.2.1
              clear hL
              refine ⟨false, e105, ?_⟩
              rw [if_pos rfl]
              go_simp
              exact ⟨⟨fun d hd => by injection hd with hd; subst hd; rfl, fun h => by cases h⟩, hS, trivial⟩
          · as_aux_lemma =>
              intro vals a W hS hL
              have e105 : a.tmps.getD 105 undef = .bool false := hL.1
              have e108 : a.tmps.getD 108 undef = .bool false := hL.2.1
              clear hL
              go_simp
              exact ⟨⟨fun d hd => by injection hd with hd; subst hd; rfl, fun h => by cases h⟩, hS, trivial⟩
        · intro a W' vals hd hsz hT hF hv hP hS
          obtain rfl : vals = [] := List.eq_nil_of_length_eq_zero hv
          have hS2 : SX w 2 ([] : List Stp) [] ([(w5.heap.size + 1, 29, #[.int .i64 q0, .int .i64 q1, .int .i64 q2, .string q3, .bool q4, .int .i64 q5]), (w5.heap.size, 27, #[.int .i64 n1, .int .i64 n2]), (w4.heap.size + 1, 25, #[.int .i64 q0, .int .i64 q1, .int .i64 q2, .string q3, .bool q4, .int .i64 q5]), (w4.heap.size, 23, #[.int .i64 n1, .int .i64 n2]), (g1, 29, #[.int .i64 k2, .int .i64 m2, .int .i64 s2, .string t2, .bool b2, .int .i64 e2]), (g0, 29, #[.int .i64 k1, .int .i64 m1, .int .i64 s1, .string t1, .bool b1, .int .i64 e1]), (w.heap.size + 1, 25, #[.int .i64 k2, .int .i64 m2, .int .i64 s2, .string t2, .bool b2, .int .i64 e2]), (w.heap.size, 25, #[.int .i64 k1, .int .i64 m1, .int .i64 s1, .string t1, .bool b1, .int .i64 e1])] : List (Nat × TypeId × Array Value)) W' := hS
          clear hS
          have hB0 := hS2
          have hB : SB w 2 ([(w5.heap.size + 1, 29, #[.int .i64 q0, .int .i64 q1, .int .i64 q2, .string q3, .bool q4, .int .i64 q5]), (w5.heap.size, 27, #[.int .i64 n1, .int .i64 n2]), (w4.heap.size + 1, 25, #[.int .i64 q0, .int .i64 q1, .int .i64 q2, .string q3, .bool q4, .int .i64 q5]), (w4.heap.size, 23, #[.int .i64 n1, .int .i64 n2]), (g1, 29, #[.int .i64 k2, .int .i64 m2, .int .i64 s2, .string t2, .bool b2, .int .i64 e2]), (g0, 29, #[.int .i64 k1, .int .i64 m1, .int .i64 s1, .string t1, .bool b1, .int .i64 e1]), (w.heap.size + 1, 25, #[.int .i64 k2, .int .i64 m2, .int .i64 s2, .string t2, .bool b2, .int .i64 e2]), (w.heap.size, 25, #[.int .i64 k1, .int .i64 m1, .int .i64 s1, .string t1, .bool b1, .int .i64 e1])] : List (Nat × TypeId × Array Value)) W' := hB0
          clear hB0
          have e2 : a.tmps.getD 2 undef = .pointer (some ⟨w.heap.size, 0, none⟩) := hT 2 (by simp)
          have e3 : a.tmps.getD 3 undef = .pointer (some ⟨w.heap.size + 1, 0, none⟩) := hT 3 (by simp)
          have e5 : a.tmps.getD 5 undef = .pointer (some ⟨g0, 0, none⟩) := hT 5 (by simp)
          have e6 : a.tmps.getD 6 undef = .pointer (some ⟨g1, 0, none⟩) := hT 6 (by simp)
          have e8 : a.tmps.getD 8 undef = .pointer (some ⟨w4.heap.size + 1, 0, none⟩) := hT 8 (by simp)
          have e11 : a.tmps.getD 11 undef = .pointer (some ⟨w5.heap.size + 1, 0, none⟩) := hT 11 (by simp)
          have e109 : a.tmps.getD 109 undef = .bool false := hT 109 (by simp)
          clear hT hF hP
          rw [act_lit 150 a hd hsz]
          simp only [List.range, List.range.loop, List.map, e2, e3, e5, e6, e8, e11, e109]
          clear hd hsz e2 e3 e5 e6 e8 e11 e109
          clear HB
          have HB := Lib.hid hB
          clear hB
          have kf0_ := HB.out.box (i := 7) rfl
          have cf0_0 := kf0_.cell 0
          have cf0_1 := kf0_.cell 1
          have cf0_2 := kf0_.cell 2
          have cf0_3 := kf0_.cell 3
          have cf0_4 := kf0_.cell 4
          have cf0_5 := kf0_.cell 5
          clear kf0_
          go_wp2_with fail
          refine (HTR.out _).mono ?_
          rintro x w8 ⟨rfl, hb⟩
          have hB := HB.out.call hb
          clear cf0_0 cf0_1 cf0_2 cf0_3 cf0_4 cf0_5
          clear hb HB
          have hF := hB.put6 (i := 2) rfl (by omega) (by simp [butBox] <;> omega) (.int .i64 r0 : Value) (.int .i64 r1 : Value) (.int .i64 r2 : Value) (.string r3 : Value) (.bool r4 : Value) (.int .i64 r5 : Value)
          have ks := hB.box (i := 2) rfl
          have cs0 := ks.cell 0
          have zs0 := ks.frozen 0
          have cs1 := ks.cell 1
          have zs1 := ks.frozen 1
          have cs2 := ks.cell 2
          have zs2 := ks.frozen 2
          have cs3 := ks.cell 3
          have zs3 := ks.frozen 3
          have cs4 := ks.cell 4
          have zs4 := ks.frozen 4
          have cs5 := ks.cell 5
          have zs5 := ks.frozen 5
          clear ks
          clear hB
          have HB : Hid (SB w 2 ([(w5.heap.size + 1, 29, #[.int .i64 q0, .int .i64 q1, .int .i64 q2, .string q3, .bool q4, .int .i64 q5]), (w5.heap.size, 27, #[.int .i64 n1, .int .i64 n2]), (w4.heap.size + 1, 25, #[.int .i64 r0, .int .i64 r1, .int .i64 r2, .string r3, .bool r4, .int .i64 r5]), (w4.heap.size, 23, #[.int .i64 n1, .int .i64 n2]), (g1, 29, #[.int .i64 k2, .int .i64 m2, .int .i64 s2, .string t2, .bool b2, .int .i64 e2]), (g0, 29, #[.int .i64 k1, .int .i64 m1, .int .i64 s1, .string t1, .bool b1, .int .i64 e1]), (w.heap.size + 1, 25, #[.int .i64 k2, .int .i64 m2, .int .i64 s2, .string t2, .bool b2, .int .i64 e2]), (w.heap.size, 25, #[.int .i64 k1, .int .i64 m1, .int .i64 s1, .string t1, .bool b1, .int .i64 e1])] : List (Nat × TypeId × Array Value)) ((((((w8.setCell ⟨w4.heap.size + 1, 0, none⟩ (.int .i64 r0)).setCell ⟨w4.heap.size + 1, 1, none⟩ (.int .i64 r1)).setCell ⟨w4.heap.size + 1, 2, none⟩ (.int .i64 r2)).setCell ⟨w4.heap.size + 1, 3, none⟩ (.string r3)).setCell ⟨w4.heap.size + 1, 4, none⟩ (.bool r4)).setCell ⟨w4.heap.size + 1, 5, none⟩ (.int .i64 r5))) := Lib.hid (by simpa [setBox] using hF)
          clear hF
          have kf0_ := HB.out.box (i := 5) rfl
          have cf0_0 := kf0_.cell 0
          have cf0_1 := kf0_.cell 1
          have cf0_2 := kf0_.cell 2
          have cf0_3 := kf0_.cell 3
          have cf0_4 := kf0_.cell 4
          have cf0_5 := kf0_.cell 5
          clear kf0_
          go_wp2_with fail
          refine (HBTR.out _).mono ?_
          rintro x w9 ⟨rfl, hb⟩
          have hB := HB.out.call hb
          clear cs0 cs1 cs2 cs3 cs4 cs5 zs0 zs1 zs2 zs3 zs4 zs5
          clear cf0_0 cf0_1 cf0_2 cf0_3 cf0_4 cf0_5
          clear hb HB
          have hF := hB.put6 (i := 0) rfl (by omega) (by simp [butBox] <;> omega) (.int .i64 r0 : Value) (.int .i64 r1 : Value) (.int .i64 r2 : Value) (.string r3 : Value) (.bool r4 : Value) (.int .i64 r5 : Value)
          have ks := hB.box (i := 0) rfl
          have cs0 := ks.cell 0
          have zs0 := ks.frozen 0
          have cs1 := ks.cell 1
          have zs1 := ks.frozen 1
          have cs2 := ks.cell 2
          have zs2 := ks.frozen 2
          have cs3 := ks.cell 3
          have zs3 := ks.frozen 3
          have cs4 := ks.cell 4
          have zs4 := ks.frozen 4
          have cs5 := ks.cell 5
          have zs5 := ks.frozen 5
          clear ks
          clear hB
          have HB : Hid (SB w 2 ([(w5.heap.size + 1, 29, #[.int .i64 r0, .int .i64 r1, .int .i64 r2, .string r3, .bool r4, .int .i64 r5]), (w5.heap.size, 27, #[.int .i64 n1, .int .i64 n2]), (w4.heap.size + 1, 25, #[.int .i64 r0, .int .i64 r1, .int .i64 r2, .string r3, .bool r4, .int .i64 r5]), (w4.heap.size, 23, #[.int .i64 n1, .int .i64 n2]), (g1, 29, #[.int .i64 k2, .int .i64 m2, .int .i64 s2, .string t2, .bool b2, .int .i64 e2]), (g0, 29, #[.int .i64 k1, .int .i64 m1, .int .i64 s1, .string t1, .bool b1, .int .i64 e1]), (w.heap.size + 1, 25, #[.int .i64 k2, .int .i64 m2, .int .i64 s2, .string t2, .bool b2, .int .i64 e2]), (w.heap.size, 25, #[.int .i64 k1, .int .i64 m1, .int .i64 s1, .string t1, .bool b1, .int .i64 e1])] : List (Nat × TypeId × Array Value)) ((((((w9.setCell ⟨w5.heap.size + 1, 0, none⟩ (.int .i64 r0)).setCell ⟨w5.heap.size + 1, 1, none⟩ (.int .i64 r1)).setCell ⟨w5.heap.size + 1, 2, none⟩ (.int .i64 r2)).setCell ⟨w5.heap.size + 1, 3, none⟩ (.string r3)).setCell ⟨w5.heap.size + 1, 4, none⟩ (.bool r4)).setCell ⟨w5.heap.size + 1, 5, none⟩ (.int .i64 r5))) := Lib.hid (by simpa [setBox] using hF)
          clear hF
          go_wp2_with fail
          clear cs0 cs1 cs2 cs3 cs4 cs5 zs0 zs1 zs2 zs3 zs4 zs5
          refine wp_region_phases (S := (fun vals W => SX w 2 ([] : List Stp) vals ([(w5.heap.size + 1, 29, #[.int .i64 r0, .int .i64 r1, .int .i64 r2, .string r3, .bool r4, .int .i64 r5]), (w5.heap.size, 27, #[.int .i64 n1, .int .i64 n2]), (w4.heap.size + 1, 25, #[.int .i64 r0, .int .i64 r1, .int .i64 r2, .string r3, .bool r4, .int .i64 r5]), (w4.heap.size, 23, #[.int .i64 n1, .int .i64 n2]), (g1, 29, #[.int .i64 k2, .int .i64 m2, .int .i64 s2, .string t2, .bool b2, .int .i64 e2]), (g0, 29, #[.int .i64 k1, .int .i64 m1, .int .i64 s1, .string t1, .bool b1, .int .i64 e1]), (w.heap.size + 1, 25, #[.int .i64 k2, .int .i64 m2, .int .i64 s2, .string t2, .bool b2, .int .i64 e2]), (w.heap.size, 25, #[.int .i64 k1, .int .i64 m1, .int .i64 s1, .string t1, .bool b1, .int .i64 e1])] : List (Nat × TypeId × Array Value)) W)) (E := (fun _ _ => True)) [] [(2, Is (.pointer (some ⟨w.heap.size, 0, none⟩))), (3, Is (.pointer (some ⟨w.heap.size + 1, 0, none⟩))), (5, Is (.pointer (some ⟨g0, 0, none⟩))), (6, Is (.pointer (some ⟨g1, 0, none⟩))), (8, Is (.pointer (some ⟨w4.heap.size + 1, 0, none⟩))), (11, Is (.pointer (some ⟨w5.heap.size + 1, 0, none⟩))), (9, Is (.bool ok3)), (16, Is (.bool c)), (17, Is (.bool c)), (18, Is (.bool ok3))] [(122, Is (.bool c)), (123, Is (.bool c)), (124, Is (.bool false)), (125, Is (.bool false)), (126, Is (.agg #[.int .i64 r0, .int .i64 r1, .int .i64 r2, .string r3, .bool r4, .int .i64 r5])), (127, Is (.agg #[.int .i64 r0, .int .i64 r1, .int .i64 r2, .string r3, .bool r4, .int .i64 r5])), (128, Is (.agg #[.int .i64 r0, .int .i64 r1, .int .i64 r2, .string r3, .bool r4, .int .i64 r5])), (129, Is (.bool false)), (130, Is (.bool false)), (131, Is (.bool false)), (132, Is (.bool ok3)), (133, Is (.bool ok3)), (134, Is (.bool false)), (135, Is (.bool false))]
            [.op [16] none, .op [17] none, .op [122, 123] none, .op [124] none, .op [8, 125] (some (125, false)), .op [126, 125] (some (125, false)), .op [11, 125] (some (125, false)), .op [127, 128, 125] (some (125, false)), .op [125, 129] none, .op [130] none, .op [9, 131] (some (131, false)), .op [18, 131] (some (131, false)), .op [132, 133, 131] (some (131, false)), .op [131, 134] none] (by as_aux_lemma => kernel_rfl) ?_ ?_ ?_ ?_ ?_ ⟨stable_is _ _, stable_is _ _, stable_is _ _, stable_is _ _, stable_is _ _, stable_is _ _, stable_is _ _, stable_is _ _, stable_is _ _, stable_is _ _, stable_is _ _, stable_is _ _, stable_is _ _, stable_is _ _, stable_is _ _, stable_is _ _, stable_is _ _, stable_is _ _, stable_is _ _, stable_is _ _, stable_is _ _, stable_is _ _, stable_is _ _, stable_is _ _, trivial⟩ ?_ (HB.out.drew) ?_ ?_
          · as_aux_lemma => kernel_rfl
          · as_aux_lemma => kernel_rfl
          · as_aux_lemma => kernel_rfl
          · as_aux_lemma => kernel_rfl
          · as_aux_lemma => kernel_rfl
          · exact ⟨rfl, rfl, rfl, rfl, rfl, rfl, rfl, rfl, rfl, rfl, trivial⟩
          · refine ⟨?_, ?_, ?_, ?_, ?_, ?_, ?_, ?_, ?_, ?_, ?_, ?_, ?_, ?_, trivial⟩
            · as_aux_lemma =>
                intro vals a W hS hL
                have e16 : a.tmps.getD 16 undef = .bool c := hL.1
                clear hL
                go_simp
                exact ⟨⟨fun d hd => by injection hd with hd; subst hd; rfl, fun h => by cases h⟩, hS, trivial⟩
            · as_aux_lemma =>
                intro vals a W hS hL
                have e17 : a.tmps.getD 17 undef = .bool c := hL.1
                clear hL
                go_simp
                exact ⟨⟨fun d hd => by injection hd with hd; subst hd; rfl, fun h => by cases h⟩, hS, trivial⟩
            · as_aux_lemma =>
                intro vals a W hS hL
                have e122 : a.tmps.getD 122 undef = .bool c := hL.1
                have e123 : a.tmps.getD 123 undef = .bool c := hL.2.1
                clear hL
                go_simp
                exact ⟨⟨fun d hd => by injection hd with hd; subst hd; rfl, fun h => by cases h⟩, hS, trivial⟩
            · as_aux_lemma =>
                intro vals a W hS hL
                have e124 : a.tmps.getD 124 undef = .bool false := hL.1
                clear hL
                go_simp
                exact ⟨⟨fun d hd => by injection hd with hd; subst hd; rfl, fun h => by cases h⟩, hS, trivial⟩
            · as_aux_lemma =>
                intro vals a W hS hL
                have e8 : a.tmps.getD 8 undef = .pointer (some ⟨w4.heap.size + 1, 0, none⟩) := hL.1
                have e125 : a.tmps.getD 125 undef = .bool false := hL.2.1
                clear hL
                refine ⟨false, e125, ?_⟩
                rw [if_pos rfl]
                have kb : Bk W (w4.heap.size + 1) 25 #[.int .i64 r0, .int .i64 r1, .int .i64 r2, .string r3, .bool r4, .int .i64 r5] := hS.bk 2 rfl rfl
                have f0 := kb.cell 0
                have f1 := kb.cell 1
                have f2 := kb.cell 2
                have f3 := kb.cell 3
                have f4 := kb.cell 4
                have f5 := kb.cell 5
                clear kb
                go_simp
                exact ⟨⟨fun d hd => by injection hd with hd; subst hd; rfl, fun h => by cases h⟩, hS, trivial⟩
            · as_aux_lemma =>
                intro vals a W hS hL
                have e126 : a.tmps.getD 126 undef = .agg #[.int .i64 r0, .int .i64 r1, .int .i64 r2, .string r3, .bool r4, .int .i64 r5] := hL.1
                have e125 : a.tmps.getD 125 undef = .bool false := hL.2.1
                clear hL
                refine ⟨false, e125, ?_⟩
                rw [if_pos rfl]
                go_simp
                refine (HOr.out W).mono ?_
                rintro e W' ⟨rfl, hb⟩
                exact ⟨_, rfl, ⟨fun d hd => by injection hd with hd; subst hd; rfl, fun h => by cases h⟩, hS.call hb, trivial⟩
            · as_aux_lemma =>
                intro vals a W hS hL
                have e11 : a.tmps.getD 11 undef = .pointer (some ⟨w5.heap.size + 1, 0, none⟩) := hL.1
                have e125 : a.tmps.getD 125 undef = .bool false := hL.2.1
                clear hL
                refine ⟨false, e125, ?_⟩
                rw [if_pos rfl]
                have kb : Bk W (w5.heap.size + 1) 29 #[.int .i64 r0, .int .i64 r1, .int .i64 r2, .string r3, .bool r4, .int .i64 r5] := hS.bk 0 rfl rfl
                have f0 := kb.cell 0
                have f1 := kb.cell 1
                have f2 := kb.cell 2
                have f3 := kb.cell 3
                have f4 := kb.cell 4
                have f5 := kb.cell 5
                clear kb
                go_simp
                exact ⟨⟨fun d hd => by injection hd with hd; subst hd; rfl, fun h => by cases h⟩, hS, trivial⟩
            · as_aux_lemma =>
                intro vals a W hS hL
                have e127 : a.tmps.getD 127 undef = .agg #[.int .i64 r0, .int .i64 r1, .int .i64 r2, .string r3, .bool r4, .int .i64 r5] := hL.1
                have e128 : a.tmps.getD 128 undef = .agg #[.int .i64 r0, .int .i64 r1, .int .i64 r2, .string r3, .bool r4, .int .i64 r5] := hL.2.1
                have e125 : a.tmps.getD 125 undef = .bool false := hL.2.2.1
                clear hL
                refine ⟨false, e125, ?_⟩
                rw [if_pos rfl]
                go_simp
                exact ⟨⟨fun d hd => by injection hd with hd; subst hd; rfl, fun h => by cases h⟩, hS, trivial⟩
            · as_aux_lemma =>
                intro vals a W hS hL
                have e125 : a.tmps.getD 125 undef = .bool false := hL.1
                have e129 : a.tmps.getD 129 undef = .bool false := hL.2.1
                clear hL
                go_simp
                exact ⟨⟨fun d hd => by injection hd with hd; subst hd; rfl, fun h => by cases h⟩, hS, trivial⟩
            · as_aux_lemma =>
                intro vals a W hS hL
                have e130 : a.tmps.getD 130 undef = .bool false := hL.1
                clear hL
                go_simp
                exact ⟨⟨fun d hd => by injection hd with hd; subst hd; rfl, fun h => by cases h⟩, hS, trivial⟩
            · as_aux_lemma =>
                intro vals a W hS hL
                have e9 : a.tmps.getD 9 undef = .bool ok3 := hL.1
                have e131 : a.tmps.getD 131 undef = .bool false := hL.2.1
                clear hL
                refine ⟨false, e131, ?_⟩
                rw [if_pos rfl]
                go_simp
                exact ⟨⟨fun d hd => by injection hd with hd; subst hd; rfl, fun h => by cases h⟩, hS, trivial⟩
            · as_aux_lemma =>
                intro vals a W hS hL
                have e18 : a.tmps.getD 18 undef = .bool ok3 := hL.1
                have e131 : a.tmps.getD 131 undef = .bool false := hL.2.1
                clear hL
                refine ⟨false, e131, ?_⟩
                rw [if_pos rfl]
                go_simp
                exact ⟨⟨fun d hd => by injection hd with hd; subst hd; rfl, fun h => by cases h⟩, hS, trivial⟩
            · as_aux_lemma =>
                intro vals a W hS hL
                have e132 : a.tmps.getD 132 undef = .bool ok3 := hL.1
                have e133 : a.tmps.getD 133 undef = .bool ok3 := hL.2.1
                have e131 : a.tmps.getD 131 undef = .bool false := hL.2.2.1
                clear hL
                refine ⟨false, e131, ?_⟩
                rw [if_pos rfl]
                go_simp
                exact ⟨⟨fun d hd => by injection hd with hd; subst hd; rfl, fun h => by cases h⟩, hS, trivial⟩
            · as_aux_lemma =>
                intro vals a W hS hL
                have e131 : a.tmps.getD 131 undef = .bool false := hL.1
                have e134 : a.tmps.getD 134 undef = .bool false := hL.2.1
                clear hL
                go_simp
                exact ⟨⟨fun d hd => by injection hd with hd; subst hd; rfl, fun h => by cases h⟩, hS, trivial⟩
          · intro a W' vals hd hsz hT hF hv hP hS
            obtain rfl : vals = [] := List.eq_nil_of_length_eq_zero hv
            have hS2 : SX w 2 ([] : List Stp) [] ([(w5.heap.size + 1, 29, #[.int .i64 r0, .int .i64 r1, .int .i64 r2, .string r3, .bool r4, .int .i64 r5]), (w5.heap.size, 27, #[.int .i64 n1, .int .i64 n2]), (w4.heap.size + 1, 25, #[.int .i64 r0, .int .i64 r1, .int .i64 r2, .string r3, .bool r4, .int .i64 r5]), (w4.heap.size, 23, #[.int .i64 n1, .int .i64 n2]), (g1, 29, #[.int .i64 k2, .int .i64 m2, .int .i64 s2, .string t2, .bool b2, .int .i64 e2]), (g0, 29, #[.int .i64 k1, .int .i64 m1, .int .i64 s1, .string t1, .bool b1, .int .i64 e1]), (w.heap.size + 1, 25, #[.int .i64 k2, .int .i64 m2, .int .i64 s2, .string t2, .bool b2, .int .i64 e2]), (w.heap.size, 25, #[.int .i64 k1, .int .i64 m1, .int .i64 s1, .string t1, .bool b1, .int .i64 e1])] : List (Nat × TypeId × Array Value)) W' := hS
            clear hS
            have hB0 := hS2
            have hB : SB w 2 ([(w5.heap.size + 1, 29, #[.int .i64 r0, .int .i64 r1, .int .i64 r2, .string r3, .bool r4, .int .i64 r5]), (w5.heap.size, 27, #[.int .i64 n1, .int .i64 n2]), (w4.heap.size + 1, 25, #[.int .i64 r0, .int .i64 r1, .int .i64 r2, .string r3, .bool r4, .int .i64 r5]), (w4.heap.size, 23, #[.int .i64 n1, .int .i64 n2]), (g1, 29, #[.int .i64 k2, .int .i64 m2, .int .i64 s2, .string t2, .bool b2, .int .i64 e2]), (g0, 29, #[.int .i64 k1, .int .i64 m1, .int .i64 s1, .string t1, .bool b1, .int .i64 e1]), (w.heap.size + 1, 25, #[.int .i64 k2, .int .i64 m2, .int .i64 s2, .string t2, .bool b2, .int .i64 e2]), (w.heap.size, 25, #[.int .i64 k1, .int .i64 m1, .int .i64 s1, .string t1, .bool b1, .int .i64 e1])] : List (Nat × TypeId × Array Value)) W' := hB0
            clear hB0
            have e2 : a.tmps.getD 2 undef = .pointer (some ⟨w.heap.size, 0, none⟩) := hT 2 (by simp)
            have e3 : a.tmps.getD 3 undef = .pointer (some ⟨w.heap.size + 1, 0, none⟩) := hT 3 (by simp)
            have e5 : a.tmps.getD 5 undef = .pointer (some ⟨g0, 0, none⟩) := hT 5 (by simp)
            have e6 : a.tmps.getD 6 undef = .pointer (some ⟨g1, 0, none⟩) := hT 6 (by simp)
            have e135 : a.tmps.getD 135 undef = .bool false := hT 135 (by simp)
            clear hT hF hP
            rw [act_lit 150 a hd hsz]
            simp only [List.range, List.range.loop, List.map, e2, e3, e5, e6, e135]
            clear hd hsz e2 e3 e5 e6 e135
            clear HB
            have HB := Lib.hid hB
            clear hB
            go_wp2_with fail
            refine wp_region_phases (S := (fun vals W => SX w 2 ([] : List Stp) vals ([(w5.heap.size + 1, 29, #[.int .i64 r0, .int .i64 r1, .int .i64 r2, .string r3, .bool r4, .int .i64 r5]), (w5.heap.size, 27, #[.int .i64 n1, .int .i64 n2]), (w4.heap.size + 1, 25, #[.int .i64 r0, .int .i64 r1, .int .i64 r2, .string r3, .bool r4, .int .i64 r5]), (w4.heap.size, 23, #[.int .i64 n1, .int .i64 n2]), (g1, 29, #[.int .i64 k2, .int .i64 m2, .int .i64 s2, .string t2, .bool b2, .int .i64 e2]), (g0, 29, #[.int .i64 k1, .int .i64 m1, .int .i64 s1, .string t1, .bool b1, .int .i64 e1]), (w.heap.size + 1, 25, #[.int .i64 k2, .int .i64 m2, .int .i64 s2, .string t2, .bool b2, .int .i64 e2]), (w.heap.size, 25, #[.int .i64 k1, .int .i64 m1, .int .i64 s1, .string t1, .bool b1, .int .i64 e1])] : List (Nat × TypeId × Array Value)) W)) (E := (fun _ _ => True)) [] [(2, Is (.pointer (some ⟨w.heap.size, 0, none⟩))), (3, Is (.pointer (some ⟨w.heap.size + 1, 0, none⟩))), (5, Is (.pointer (some ⟨g0, 0, none⟩))), (6, Is (.pointer (some ⟨g1, 0, none⟩)))] [(136, Is (.agg #[.int .i64 k1, .int .i64 m1, .int .i64 s1, .string t1, .bool b1, .int .i64 e1])), (137, Is (.string T2)), (138, Is (.agg #[.int .i64 k1, .int .i64 m1, .int .i64 s1, .string t1, .bool b1, .int .i64 e1])), (139, Is (.string T2)), (140, Is (.bool true)), (141, Is (.bool true)), (142, Is (.agg #[.int .i64 k1, .int .i64 m1, .int .i64 s1, .string t1, .bool b1, .int .i64 e1])), (143, Is (.agg #[.int .i64 k2, .int .i64 m2, .int .i64 s2, .string t2, .bool b2, .int .i64 e2])), (144, Is (.int .i64 C)), (145, Is (.agg #[.int .i64 k1, .int .i64 m1, .int .i64 s1, .string t1, .bool b1, .int .i64 e1])), (146, Is (.agg #[.int .i64 k2, .int .i64 m2, .int .i64 s2, .string t2, .bool b2, .int .i64 e2])), (147, Is (.int .i64 C)), (148, Is (.bool true)), (149, Is (.bool true)), (4, Is (.bool true))]
              [.op [2] none, .op [136] none, .op [5] none, .op [138] none, .op [137, 139] none, .op [140] none, .op [2, 141] (some (141, true)), .op [3, 141] (some (141, true)), .op [142, 143, 141] (some (141, true)), .op [5, 141] (some (141, true)), .op [6, 141] (some (141, true)), .op [145, 146, 141] (some (141, true)), .op [144, 147, 141] (some (141, true)), .op [141, 148] none, .op [149] none] (by as_aux_lemma => kernel_rfl) ?_ ?_ ?_ ?_ ?_ ⟨stable_is _ _, stable_is _ _, stable_is _ _, stable_is _ _, stable_is _ _, stable_is _ _, stable_is _ _, stable_is _ _, stable_is _ _, stable_is _ _, stable_is _ _, stable_is _ _, stable_is _ _, stable_is _ _, stable_is _ _, stable_is _ _, stable_is _ _, stable_is _ _, stable_is _ _, trivial⟩ ?_ (HB.out.drew) ?_ ?_
            · as_aux_lemma => kernel_rfl
            · as_aux_lemma => kernel_rfl
            · as_aux_lemma => kernel_rfl
            · as_aux_lemma => kernel_rfl
            · as_aux_lemma => kernel_rfl
            · exact ⟨rfl, rfl, rfl, rfl, trivial⟩
            · refine ⟨?_, ?_, ?_, ?_, ?_, ?_, ?_, ?_, ?_, ?_, ?_, ?_, ?_, ?_, ?_, trivial⟩
              · as_aux_lemma =>
                  intro vals a W hS hL
                  have e2 : a.tmps.getD 2 undef = .pointer (some ⟨w.heap.size, 0, none⟩) := hL.1
                  clear hL
                  have kb : Bk W (w.heap.size) 25 #[.int .i64 k1, .int .i64 m1, .int .i64 s1, .string t1, .bool b1, .int .i64 e1] := hS.bk 7 rfl rfl
                  have f0 := kb.cell 0
                  have f1 := kb.cell 1
                  have f2 := kb.cell 2
                  have f3 := kb.cell 3
                  have f4 := kb.cell 4
                  have f5 := kb.cell 5
                  clear kb
                  go_simp
                  exact ⟨⟨fun d hd => by injection hd with hd; subst hd; rfl, fun h => by cases h⟩, hS, trivial⟩
              · as_aux_lemma =>
                  intro vals a W hS hL
                  have e136 : a.tmps.getD 136 undef = .agg #[.int .i64 k1, .int .i64 m1, .int .i64 s1, .string t1, .bool b1, .int .i64 e1] := hL.1
                  clear hL
                  go_simp
                  refine (HTX.out W hS.bel).mono ?_
                  rintro e W' ⟨rfl, hb⟩
                  exact ⟨_, rfl, ⟨fun d hd => by injection hd with hd; subst hd; rfl, fun h => by cases h⟩, hS.call hb, trivial⟩
              · as_aux_lemma =>
                  intro vals a W hS hL
                  have e5 : a.tmps.getD 5 undef = .pointer (some ⟨g0, 0, none⟩) := hL.1
                  clear hL
                  have kb : Bk W (g0) 29 #[.int .i64 k1, .int .i64 m1, .int .i64 s1, .string t1, .bool b1, .int .i64 e1] := hS.bk 5 rfl rfl
                  have f0 := kb.cell 0
                  have f1 := kb.cell 1
                  have f2 := kb.cell 2
                  have f3 := kb.cell 3
                  have f4 := kb.cell 4
                  have f5 := kb.cell 5
                  clear kb
                  go_simp
                  exact ⟨⟨fun d hd => by injection hd with hd; subst hd; rfl, fun h => by cases h⟩, hS, trivial⟩
              · as_aux_lemma =>
                  intro vals a W hS hL
                  have e138 : a.tmps.getD 138 undef = .agg #[.int .i64 k1, .int .i64 m1, .int .i64 s1, .string t1, .bool b1, .int .i64 e1] := hL.1
                  clear hL
                  go_simp
                  refine (HBTX.out W).mono ?_
                  rintro e W' ⟨rfl, hb⟩
                  exact ⟨_, rfl, ⟨fun d hd => by injection hd with hd; subst hd; rfl, fun h => by cases h⟩, hS.call hb, trivial⟩
              · as_aux_lemma =>
                  intro vals a W hS hL
                  have e137 : a.tmps.getD 137 undef = .string T2 := hL.1
                  have e139 : a.tmps.getD 139 undef = .string T2 := hL.2.1
                  clear hL
                  go_simp
                  exact ⟨⟨fun d hd => by injection hd with hd; subst hd; rfl, fun h => by cases h⟩, hS, trivial⟩
              · as_aux_lemma =>
                  intro vals a W hS hL
                  have e140 : a.tmps.getD 140 undef = .bool true := hL.1
                  clear hL
                  go_simp
                  exact ⟨⟨fun d hd => by injection hd with hd; subst hd; rfl, fun h => by cases h⟩, hS, trivial⟩
              · as_aux_lemma =>
                  intro vals a W hS hL
                  have e2 : a.tmps.getD 2 undef = .pointer (some ⟨w.heap.size, 0, none⟩) := hL.1
                  have e141 : a.tmps.getD 141 undef = .bool true := hL.2.1
                  clear hL
                  refine ⟨true, e141, ?_⟩
                  rw [if_pos rfl]
                  have kb : Bk W (w.heap.size) 25 #[.int .i64 k1, .int .i64 m1, .int .i64 s1, .string t1, .bool b1, .int .i64 e1] := hS.bk 7 rfl rfl
                  have f0 := kb.cell 0
                  have f1 := kb.cell 1
                  have f2 := kb.cell 2
                  have f3 := kb.cell 3
                  have f4 := kb.cell 4
                  have f5 := kb.cell 5
                  clear kb
                  go_simp
                  exact ⟨⟨fun d hd => by injection hd with hd; subst hd; rfl, fun h => by cases h⟩, hS, trivial⟩
              · as_aux_lemma =>
                  intro vals a W hS hL
                  have e3 : a.tmps.getD 3 undef = .pointer (some ⟨w.heap.size + 1, 0, none⟩) := hL.1
                  have e141 : a.tmps.getD 141 undef = .bool true := hL.2.1
                  clear hL
                  refine ⟨true, e141, ?_⟩
                  rw [if_pos rfl]
                  have kb : Bk W (w.heap.size + 1) 25 #[.int .i64 k2, .int .i64 m2, .int .i64 s2, .string t2, .bool b2, .int .i64 e2] := hS.bk 6 rfl rfl
                  have f0 := kb.cell 0
                  have f1 := kb.cell 1
                  have f2 := kb.cell 2
                  have f3 := kb.cell 3
                  have f4 := kb.cell 4
                  have f5 := kb.cell 5
                  clear kb
                  go_simp
                  exact ⟨⟨fun d hd => by injection hd with hd; subst hd; rfl, fun h => by cases h⟩, hS, trivial⟩
              · as_aux_lemma =>
                  intro vals a W hS hL
                  have e142 : a.tmps.getD 142 undef = .agg #[.int .i64 k1, .int .i64 m1, .int .i64 s1, .string t1, .bool b1, .int .i64 e1] := hL.1
                  have e143 : a.tmps.getD 143 undef = .agg #[.int .i64 k2, .int .i64 m2, .int .i64 s2, .string t2, .bool b2, .int .i64 e2] := hL.2.1
                  have e141 : a.tmps.getD 141 undef = .bool true := hL.2.2.1
                  clear hL
                  refine ⟨true, e141, ?_⟩
                  rw [if_pos rfl]
                  go_simp
                  refine (HCM.out W).mono ?_
                  rintro e W' ⟨rfl, hb⟩
                  exact ⟨_, rfl, ⟨fun d hd => by injection hd with hd; subst hd; rfl, fun h => by cases h⟩, hS.call hb, trivial⟩
              · as_aux_lemma =>
                  intro vals a W hS hL
                  have e5 : a.tmps.getD 5 undef = .pointer (some ⟨g0, 0, none⟩) := hL.1
                  have e141 : a.tmps.getD 141 undef = .bool true := hL.2.1
                  clear hL
                  refine ⟨true, e141, ?_⟩
                  rw [if_pos rfl]
                  have kb : Bk W (g0) 29 #[.int .i64 k1, .int .i64 m1, .int .i64 s1, .string t1, .bool b1, .int .i64 e1] := hS.bk 5 rfl rfl
                  have f0 := kb.cell 0
                  have f1 := kb.cell 1
                  have f2 := kb.cell 2
                  have f3 := kb.cell 3
                  have f4 := kb.cell 4
                  have f5 := kb.cell 5
                  clear kb
                  go_simp
                  exact ⟨⟨fun d hd => by injection hd with hd; subst hd; rfl, fun h => by cases h⟩, hS, trivial⟩
              · as_aux_lemma =>
                  intro vals a W hS hL
                  have e6 : a.tmps.getD 6 undef = .pointer (some ⟨g1, 0, none⟩) := hL.1
                  have e141 : a.tmps.getD 141 undef = .bool true := hL.2.1
                  clear hL
                  refine ⟨true, e141, ?_⟩
                  rw [if_pos rfl]
                  have kb : Bk W (g1) 29 #[.int .i64 k2, .int .i64 m2, .int .i64 s2, .string t2, .bool b2, .int .i64 e2] := hS.bk 4 rfl rfl
                  have f0 := kb.cell 0
                  have f1 := kb.cell 1
                  have f2 := kb.cell 2
                  have f3 := kb.cell 3
                  have f4 := kb.cell 4
                  have f5 := kb.cell 5
                  clear kb
                  go_simp
                  exact ⟨⟨fun d hd => by injection hd with hd; subst hd; rfl, fun h => by cases h⟩, hS, trivial⟩
              · as_aux_lemma =>
                  intro vals a W hS hL
                  have e145 : a.tmps.getD 145 undef = .agg #[.int .i64 k1, .int .i64 m1, .int .i64 s1, .string t1, .bool b1, .int .i64 e1] := hL.1
                  have e146 : a.tmps.getD 146 undef = .agg #[.int .i64 k2, .int .i64 m2, .int .i64 s2, .string t2, .bool b2, .int .i64 e2] := hL.2.1
                  have e141 : a.tmps.getD 141 undef = .bool true := hL.2.2.1
                  clear hL
                  refine ⟨true, e141, ?_⟩
                  rw [if_pos rfl]
                  go_simp
                  refine (HBCM.out W).mono ?_
                  rintro e W' ⟨rfl, hb⟩
                  exact ⟨_, rfl, ⟨fun d hd => by injection hd with hd; subst hd; rfl, fun h => by cases h⟩, hS.call hb, trivial⟩
              · as_aux_lemma =>
                  intro vals a W hS hL
                  have e144 : a.tmps.getD 144 undef = .int .i64 C := hL.1
                  have e147 : a.tmps.getD 147 undef = .int .i64 C := hL.2.1
                  have e141 : a.tmps.getD 141 undef = .bool true := hL.2.2.1
                  clear hL
                  refine ⟨true, e141, ?_⟩
                  rw [if_pos rfl]
                  go_simp
                  exact ⟨⟨fun d hd => by injection hd with hd; subst hd; rfl, fun h => by cases h⟩, hS, trivial⟩
              · as_aux_lemma =>
                  intro vals a W hS hL
                  have e141 : a.tmps.getD 141 undef = .bool true := hL.1
                  have e148 : a.tmps.getD 148 undef = .bool true := hL.2.1
                  clear hL
                  go_simp
                  exact ⟨⟨fun d hd => by injection hd with hd; subst hd; rfl, fun h => by cases h⟩, hS, trivial⟩
              · as_aux_lemma =>
                  intro vals a W hS hL
                  have e149 : a.tmps.getD 149 undef = .bool true := hL.1
                  clear hL
                  go_simp
                  exact ⟨⟨fun d hd => by injection hd with hd; subst hd; rfl, fun h => by cases h⟩, hS, trivial⟩
            · intro a W' vals hd hsz hT hF hv hP hS
              obtain rfl : vals = [] := List.eq_nil_of_length_eq_zero hv
              have hS2 : SX w 2 ([] : List Stp) [] ([(w5.heap.size + 1, 29, #[.int .i64 r0, .int .i64 r1, .int .i64 r2, .string r3, .bool r4, .int .i64 r5]), (w5.heap.size, 27, #[.int .i64 n1, .int .i64 n2]), (w4.heap.size + 1, 25, #[.int .i64 r0, .int .i64 r1, .int .i64 r2, .string r3, .bool r4, .int .i64 r5]), (w4.heap.size, 23, #[.int .i64 n1, .int .i64 n2]), (g1, 29, #[.int .i64 k2, .int .i64 m2, .int .i64 s2, .string t2, .bool b2, .int .i64 e2]), (g0, 29, #[.int .i64 k1, .int .i64 m1, .int .i64 s1, .string t1, .bool b1, .int .i64 e1]), (w.heap.size + 1, 25, #[.int .i64 k2, .int .i64 m2, .int .i64 s2, .string t2, .bool b2, .int .i64 e2]), (w.heap.size, 25, #[.int .i64 k1, .int .i64 m1, .int .i64 s1, .string t1, .bool b1, .int .i64 e1])] : List (Nat × TypeId × Array Value)) W' := hS
              clear hS
              have hB0 := hS2
              have hB : SB w 2 ([(w5.heap.size + 1, 29, #[.int .i64 r0, .int .i64 r1, .int .i64 r2, .string r3, .bool r4, .int .i64 r5]), (w5.heap.size, 27, #[.int .i64 n1, .int .i64 n2]), (w4.heap.size + 1, 25, #[.int .i64 r0, .int .i64 r1, .int .i64 r2, .string r3, .bool r4, .int .i64 r5]), (w4.heap.size, 23, #[.int .i64 n1, .int .i64 n2]), (g1, 29, #[.int .i64 k2, .int .i64 m2, .int .i64 s2, .string t2, .bool b2, .int .i64 e2]), (g0, 29, #[.int .i64 k1, .int .i64 m1, .int .i64 s1, .string t1, .bool b1, .int .i64 e1]), (w.heap.size + 1, 25, #[.int .i64 k2, .int .i64 m2, .int .i64 s2, .string t2, .bool b2, .int .i64 e2]), (w.heap.size, 25, #[.int .i64 k1, .int .i64 m1, .int .i64 s1, .string t1, .bool b1, .int .i64 e1])] : List (Nat × TypeId × Array Value)) W' := hB0
              clear hB0
              have e4 : a.tmps.getD 4 undef = .bool true := hT 4 (by simp)
              clear hT hF hP
              go_wp2
              refine bodyPost_ret (v := .bool true) ?_ hd ⟨rfl, hB.bel⟩
              rw [Array.getD_eq_getD_getElem?] at e4
              simp [results, Tryz.results3, go_sem, e4]
end Go.Proofs.YtmbjmgmnicacpaaGreatDoor
