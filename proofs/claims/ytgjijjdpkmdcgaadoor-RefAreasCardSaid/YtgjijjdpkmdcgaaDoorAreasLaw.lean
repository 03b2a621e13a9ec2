/- cashbooklaw8.RefAreas by its contract: it returns true. Condition: strconv.Itoa keeps its contract. -/
import Derived.Test.YtgjijjdpkmdcgaaDoorKnown8
import Derived.Test.YtgjijjdpkmdcgaaDoorBCe
namespace Go.Proofs.YtgjijjdpkmdcgaaDoor
open Go.RowKit

/-- A row of n elements that reads as xs, in a block of its own where there are any. -/
def RowC (n : Nat) (xs : List Value) : Value → World → Prop := fun v W => ∃ (A : Option Addr) (c : Nat), v = .slice A n c ∧ n ≤ c ∧ (0 < n → ∃ g, A = some ⟨g, 0, none⟩ ∧ g < W.heap.size ∧ ∀ (i : Nat) u, xs[i]? = some u → W.cell? ⟨g, i, none⟩ = some u)
theorem row_of {w : World} {base n : Nat} {e : TypeId} {v : Value} {xs : List Value} (ho : w.ownsRow base e 2 v n xs) : RowC n xs v w := by
  rcases ho.2 with ⟨rfl, rfl⟩ | ⟨g, cap, cur, rfl, _, hg, hnc, _, _, _⟩
  · exact ⟨none, 0, rfl, Nat.le_refl _, fun h => by omega⟩
  · refine ⟨_, cap, rfl, hnc, fun _ => ⟨g, rfl, (Array.getElem?_eq_some_iff.1 hg).1, fun i u hu => ?_⟩⟩
    have := ho.cells (g := g) rfl i u hu
    rwa [show (⟨g, 0, none⟩ : Addr).add i = ⟨g, i, none⟩ by unfold Addr.add; split <;> simp_all] at this
theorem row_stable {n : Nat} {xs : List Value} {v : Value} {w w' : World} (hb : Below w.heap.size w w') (h : RowC n xs v w) : RowC n xs v w' := by
  obtain ⟨A, c, h1, h2, h3⟩ := h
  refine ⟨A, c, h1, h2, fun hn => ?_⟩
  obtain ⟨g, h4, h5, h6⟩ := h3 hn
  exact ⟨g, h4, Nat.lt_of_lt_of_le h5 hb.size, fun i u hu => (hb.cell (p := ⟨g, i, none⟩) h5).trans (h6 i u hu)⟩
/-- Two rows that read alike. -/
structure LS (w : World) (ga gb : Nat) (xs : List Value) (W : World) : Prop where
  bel : Below w.heap.size w W
  lt : ga < W.heap.size
  lt2 : gb < W.heap.size
  r : ∀ (i : Nat) u, xs[i]? = some u → W.cell? ⟨ga, i, none⟩ = some u
  r2 : ∀ (i : Nat) u, xs[i]? = some u → W.cell? ⟨gb, i, none⟩ = some u
theorem LS.call {w W W' : World} {ga gb : Nat} {xs : List Value} (h : LS w ga gb xs W) (hb : Below W.heap.size W W') : LS w ga gb xs W' :=
  ⟨h.bel.trans (hb.mono h.bel.size), Nat.lt_of_lt_of_le h.lt hb.size, Nat.lt_of_lt_of_le h.lt2 hb.size, fun i u hu => (hb.cell (p := ⟨ga, i, none⟩) h.lt).trans (h.r i u hu), fun i u hu => (hb.cell (p := ⟨gb, i, none⟩) h.lt2).trans (h.r2 i u hu)⟩
theorem LS.drew {w W : World} {ga gb : Nat} {xs : List Value} (h : LS w ga gb xs W) : LS w ga gb xs W.drew := ⟨h.bel.drew, h.lt, h.lt2, h.r, h.r2⟩

set_option maxRecDepth 20000 in
set_option maxHeartbeats 4000000 in
theorem areas_none {w : World} (HV : Tens w) (r1 c1 r2 c2 b d : Int) (x1 y1 x2 y2 : Bool) {p q p2 q2 : Int} {xs : List Value}
    (HB1 : Hid (∀ W : World, Calls Tryd.prog 20 #[.agg #[.int .i64 r1, .int .i64 c1, .bool x1, .bool y1, .int .i64 r2, .int .i64 c2, .bool x2, .bool y2], .agg #[.int .i64 b, .int .i64 d]] W fun e w' => e = .returned (.tuple #[.agg #[.int .i64 p, .int .i64 q], .agg #[.int .i64 p2, .int .i64 q2]]) ∧ Below W.heap.size W w'))
    (HB2 : Hid (∀ W : World, Calls Tryd.prog 21 #[.agg #[.int .i64 r1, .int .i64 c1, .bool x1, .bool y1, .int .i64 r2, .int .i64 c2, .bool x2, .bool y2], .agg #[.int .i64 b, .int .i64 d]] W fun e w' => e = .returned (.tuple #[.agg #[.int .i64 p, .int .i64 q], .agg #[.int .i64 p2, .int .i64 q2]]) ∧ Below W.heap.size W w'))
    (HC1 : Hid (∀ W : World, Calls Tryd.prog 25 #[.agg #[.int .i64 r1, .int .i64 c1, .bool x1, .bool y1, .int .i64 r2, .int .i64 c2, .bool x2, .bool y2], .agg #[.int .i64 b, .int .i64 d]] W fun e w' => (∃ v, e = .returned v ∧ w'.ownsRow W.heap.size 25 2 v 0 xs) ∧ Below W.heap.size W w'))
    (HC2 : Hid (∀ W : World, Calls Tryd.prog 26 #[.agg #[.int .i64 r1, .int .i64 c1, .bool x1, .bool y1, .int .i64 r2, .int .i64 c2, .bool x2, .bool y2], .agg #[.int .i64 b, .int .i64 d]] W fun e w' => (∃ v, e = .returned v ∧ w'.ownsRow W.heap.size 34 2 v 0 xs) ∧ Below W.heap.size W w'))
     :
    Calls Tryd.prog 4 #[.agg #[.int .i64 r1, .int .i64 c1, .bool x1, .bool y1, .int .i64 r2, .int .i64 c2, .bool x2, .bool y2], .agg #[.int .i64 b, .int .i64 d]] w fun e w' => e = .returned (.bool true) ∧ Below w.heap.size w w' := by
  have HK : Hid (∀ W : World, Below w.heap.size w W → Calls Tryd.prog 9 #[] W fun e w' => e = .returned (.bool true) ∧ Below W.heap.size W w') := Lib.hid (fun W hb => known8_any (HV.below hb))
  have H1 : Hid (∀ W : World, Calls Tryd.prog 22 #[.agg #[.int .i64 r1, .int .i64 c1, .bool x1, .bool y1, .int .i64 r2, .int .i64 c2, .bool x2, .bool y2]] W fun e w' => e = .returned (.agg #[.int .i64 r1, .int .i64 c1, .bool x1, .bool y1, .int .i64 r2, .int .i64 c2, .bool x2, .bool y2]) ∧ Below W.heap.size W w') := Lib.hid (fun W => ofArea_any r1 c1 r2 c2 x1 y1 x2 y2)
  have H2 : Hid (∀ W : World, Calls Tryd.prog 15 #[.agg #[.int .i64 b, .int .i64 d]] W fun e w' => e = .returned (.agg #[.int .i64 b, .int .i64 d]) ∧ Below W.heap.size W w') := Lib.hid (fun W => ofCell_any b d)
  have H3 : Hid (∀ W : World, Calls Tryd.prog 15 #[.agg #[.int .i64 p, .int .i64 q]] W fun e w' => e = .returned (.agg #[.int .i64 p, .int .i64 q]) ∧ Below W.heap.size W w') := Lib.hid (fun W => ofCell_any p q)
  have H4 : Hid (∀ W : World, Calls Tryd.prog 15 #[.agg #[.int .i64 p2, .int .i64 q2]] W fun e w' => e = .returned (.agg #[.int .i64 p2, .int .i64 q2]) ∧ Below W.heap.size W w') := Lib.hid (fun W => ofCell_any p2 q2)
  have H5 : Hid (∀ W : World, Calls Tryd.prog 23 #[.agg #[.int .i64 r1, .int .i64 c1, .bool x1, .bool y1, .int .i64 r2, .int .i64 c2, .bool x2, .bool y2]] W fun e w' => e = .returned (.int .i64 (ckA r1 c1 r2 c2)) ∧ Below W.heap.size W w') := Lib.hid (fun W => checkArea_any r1 c1 r2 c2 x1 y1 x2 y2)
  have H6 : Hid (∀ W : World, Calls Tryd.prog 24 #[.agg #[.int .i64 r1, .int .i64 c1, .bool x1, .bool y1, .int .i64 r2, .int .i64 c2, .bool x2, .bool y2]] W fun e w' => e = .returned (.int .i64 (ckA r1 c1 r2 c2)) ∧ Below W.heap.size W w') := Lib.hid (fun W => bCheckArea_any r1 c1 r2 c2 x1 y1 x2 y2)
  generalize ckA r1 c1 r2 c2 = ka at *
  clear HV
  have HB : Hid (SB w 2 ([(w.heap.size + 1, 25, #[.int .i64 b, .int .i64 d]), (w.heap.size, 42, #[.int .i64 r1, .int .i64 c1, .bool x1, .bool y1, .int .i64 r2, .int .i64 c2, .bool x2, .bool y2])] : List (Nat × TypeId × Array Value)) ((w.alloc (.cells #[.int .i64 r1, .int .i64 c1, .bool x1, .bool y1, .int .i64 r2, .int .i64 c2, .bool x2, .bool y2] 42)).alloc (.cells #[.int .i64 b, .int .i64 d] 25))) := Lib.hid ((sb1 w 42 #[.int .i64 r1, .int .i64 c1, .bool x1, .bool y1, .int .i64 r2, .int .i64 c2, .bool x2, .bool y2]).push (by simp) 25 #[.int .i64 b, .int .i64 d])
  go_enter Tryd.func4, Tryd.ntmps4
  go_wp2_with fail
  refine (HK.out _ HB.out.bel).mono ?_
  rintro e w1 ⟨rfl, hb⟩
  have hB := HB.out.call hb
  clear hb HB
  have HB := Lib.hid hB
  clear hB
  clear HK
  have ks := HB.out.box (i := 0) rfl
  have cs0 := ks.cell 0
  have cs1 := ks.cell 1
  clear ks
  have kr := HB.out.box (i := 1) rfl
  have cr0 := kr.cell 0
  have cr1 := kr.cell 1
  have cr2 := kr.cell 2
  have cr3 := kr.cell 3
  have cr4 := kr.cell 4
  have cr5 := kr.cell 5
  have cr6 := kr.cell 6
  have cr7 := kr.cell 7
  clear kr
  go_wp2_with fail
  refine (HB1.out _).mono ?_
  rintro e w2 ⟨rfl, hb⟩
  have hB := HB.out.call hb
  have hB := hB.alloc 25 #[.int .i64 p, .int .i64 q]
  have hB := hB.alloc 25 #[.int .i64 p2, .int .i64 q2]
  clear hb HB
  have HB := Lib.hid hB
  clear hB
  clear cs0 cs1 cr0 cr1 cr2 cr3 cr4 cr5 cr6 cr7 HB1
  have HBx : Hid (SB w 2 ([(w2.heap.size + 1, 25, #[.int .i64 p2, .int .i64 q2]), (w2.heap.size, 25, #[.int .i64 p, .int .i64 q]), (w.heap.size + 1, 25, #[.int .i64 b, .int .i64 d]), (w.heap.size, 42, #[.int .i64 r1, .int .i64 c1, .bool x1, .bool y1, .int .i64 r2, .int .i64 c2, .bool x2, .bool y2])] : List (Nat × TypeId × Array Value)) ((w2.alloc (.cells #[.int .i64 p, .int .i64 q] 25)).alloc (.cells #[.int .i64 p2, .int .i64 q2] 25))) := Lib.hid (by simpa using HB.out)
  clear HB
  have HB := HBx
  clear HBx
  go_wp2_with fail
  refine wp_region_parts (S := S22 w 2 ([(w2.heap.size + 1, 25, #[.int .i64 p2, .int .i64 q2]), (w2.heap.size, 25, #[.int .i64 p, .int .i64 q]), (w.heap.size + 1, 25, #[.int .i64 b, .int .i64 d]), (w.heap.size, 42, #[.int .i64 r1, .int .i64 c1, .bool x1, .bool y1, .int .i64 r2, .int .i64 c2, .bool x2, .bool y2])] : List (Nat × TypeId × Array Value)) 34 #[.int .i64 0, .int .i64 0] #[.int .i64 p, .int .i64 q] 34 #[.int .i64 0, .int .i64 0] #[.int .i64 p2, .int .i64 q2]) (E := fun _ _ => True) [8, 9, 10, 11] [(2, Is (.pointer (some ⟨w.heap.size, 0, none⟩))), (3, Is (.pointer (some ⟨w.heap.size + 1, 0, none⟩))), (5, Is (.pointer (some ⟨w2.heap.size, 0, none⟩))), (6, Is (.pointer (some ⟨w2.heap.size + 1, 0, none⟩)))] [(21, Is (.agg #[.int .i64 r1, .int .i64 c1, .bool x1, .bool y1, .int .i64 r2, .int .i64 c2, .bool x2, .bool y2])), (22, Is (.agg #[.int .i64 r1, .int .i64 c1, .bool x1, .bool y1, .int .i64 r2, .int .i64 c2, .bool x2, .bool y2])), (23, Is (.agg #[.int .i64 b, .int .i64 d])), (24, Is (.agg #[.int .i64 b, .int .i64 d])), (25, Is (.tuple #[.agg #[.int .i64 p, .int .i64 q], .agg #[.int .i64 p2, .int .i64 q2]])), (20, Is (.tuple #[.agg #[.int .i64 p, .int .i64 q], .agg #[.int .i64 p2, .int .i64 q2]])), (26, Is (.agg #[.int .i64 p, .int .i64 q])), (27, Is (.agg #[.int .i64 p2, .int .i64 q2]))]
    [.op [2] none, .op [21] none, .op [3] none, .op [23] none, .op [22, 24] none, .op [25] none, .op [20] none, .op [20] none, .phase 0 [] [] [], .phase 1 [] [] [], .phase 2 [26] [(0, 7)] [1], .phase 3 [27] [(1, 8)] [2, 0]] (by as_aux_lemma => kernel_rfl) ?_ ?_ ?_ ?_ ?_ ⟨stable_is _ _, stable_is _ _, stable_is _ _, stable_is _ _, stable_is _ _, stable_is _ _, stable_is _ _, stable_is _ _, stable_is _ _, stable_is _ _, stable_is _ _, stable_is _ _, trivial⟩ ?_ (HB.out.drew) ?_ ?_
  · as_aux_lemma => kernel_rfl
  · as_aux_lemma => kernel_rfl
  · as_aux_lemma => kernel_rfl
  · as_aux_lemma => kernel_rfl
  · as_aux_lemma => kernel_rfl
  · exact ⟨rfl, rfl, rfl, rfl, trivial⟩
  · refine ⟨?_, ?_, ?_, ?_, ?_, ?_, ?_, ?_, ?_, ?_, ?_, ?_, trivial⟩
    · as_aux_lemma =>
        intro vals a W hS hL
        have e2 : a.tmps.getD 2 undef = .pointer (some ⟨w.heap.size, 0, none⟩) := hL.1
        clear hL
        have kb : Bk W (w.heap.size) 42 #[.int .i64 r1, .int .i64 c1, .bool x1, .bool y1, .int .i64 r2, .int .i64 c2, .bool x2, .bool y2] := hS.bk 3 rfl
        have f0 := kb.cell 0
        have f1 := kb.cell 1
        have f2 := kb.cell 2
        have f3 := kb.cell 3
        have f4 := kb.cell 4
        have f5 := kb.cell 5
        have f6 := kb.cell 6
        have f7 := kb.cell 7
        clear kb
        go_simp
        exact ⟨⟨fun d hd => by injection hd with hd; subst hd; rfl, fun h => by cases h⟩, hS, trivial⟩
    · as_aux_lemma =>
        intro vals a W hS hL
        have e21 : a.tmps.getD 21 undef = .agg #[.int .i64 r1, .int .i64 c1, .bool x1, .bool y1, .int .i64 r2, .int .i64 c2, .bool x2, .bool y2] := hL.1
        clear hL
        go_simp
        refine (H1.out W).mono ?_
        rintro e W' ⟨rfl, hb⟩
        exact ⟨_, rfl, ⟨fun d hd => by injection hd with hd; subst hd; rfl, fun h => by cases h⟩, hS.call hb, trivial⟩
    · as_aux_lemma =>
        intro vals a W hS hL
        have e3 : a.tmps.getD 3 undef = .pointer (some ⟨w.heap.size + 1, 0, none⟩) := hL.1
        clear hL
        have kb : Bk W (w.heap.size + 1) 25 #[.int .i64 b, .int .i64 d] := hS.bk 2 rfl
        have f0 := kb.cell 0
        have f1 := kb.cell 1
        clear kb
        go_simp
        exact ⟨⟨fun d hd => by injection hd with hd; subst hd; rfl, fun h => by cases h⟩, hS, trivial⟩
    · as_aux_lemma =>
        intro vals a W hS hL
        have e23 : a.tmps.getD 23 undef = .agg #[.int .i64 b, .int .i64 d] := hL.1
        clear hL
        go_simp
        refine (H2.out W).mono ?_
        rintro e W' ⟨rfl, hb⟩
        exact ⟨_, rfl, ⟨fun d hd => by injection hd with hd; subst hd; rfl, fun h => by cases h⟩, hS.call hb, trivial⟩
    · as_aux_lemma =>
        intro vals a W hS hL
        have e22 : a.tmps.getD 22 undef = .agg #[.int .i64 r1, .int .i64 c1, .bool x1, .bool y1, .int .i64 r2, .int .i64 c2, .bool x2, .bool y2] := hL.1
        have e24 : a.tmps.getD 24 undef = .agg #[.int .i64 b, .int .i64 d] := hL.2.1
        clear hL
        go_simp
        refine (HB2.out W).mono ?_
        rintro e W' ⟨rfl, hb⟩
        exact ⟨_, rfl, ⟨fun d hd => by injection hd with hd; subst hd; rfl, fun h => by cases h⟩, hS.call hb, trivial⟩
    · as_aux_lemma =>
        intro vals a W hS hL
        have e25 : a.tmps.getD 25 undef = .tuple #[.agg #[.int .i64 p, .int .i64 q], .agg #[.int .i64 p2, .int .i64 q2]] := hL.1
        clear hL
        go_simp
        exact ⟨⟨fun d hd => by injection hd with hd; subst hd; rfl, fun h => by cases h⟩, hS, trivial⟩
    · as_aux_lemma =>
        intro vals a W hS hL
        have e20 : a.tmps.getD 20 undef = .tuple #[.agg #[.int .i64 p, .int .i64 q], .agg #[.int .i64 p2, .int .i64 q2]] := hL.1
        clear hL
        go_simp
        exact ⟨⟨fun d hd => by injection hd with hd; subst hd; rfl, fun h => by cases h⟩, hS, trivial⟩
    · as_aux_lemma =>
        intro vals a W hS hL
        have e20 : a.tmps.getD 20 undef = .tuple #[.agg #[.int .i64 p, .int .i64 q], .agg #[.int .i64 p2, .int .i64 q2]] := hL.1
        clear hL
        go_simp
        exact ⟨⟨fun d hd => by injection hd with hd; subst hd; rfl, fun h => by cases h⟩, hS, trivial⟩
    · as_aux_lemma =>
        intro a W vals hv hn hS hL hp hd
        clear hL
        go_simp
        exact ⟨hS.new0 hv hn, trivial, trivial⟩
    · as_aux_lemma =>
        intro a W vals hv hn hS hL hp hd
        clear hL
        go_simp
        exact ⟨hS.new1 hv hn, trivial, trivial⟩
    · as_aux_lemma =>
        intro a W vals hv hn hS hL hp hd
        have e26 : a.tmps.getD 26 undef = .agg #[.int .i64 p, .int .i64 q] := hL.1
        clear hL
        obtain ⟨g, hg, kz, hnx⟩ := hS.at2 hv hn hp.1 hd.1
        rw [Array.getD_eq_getD_getElem?] at hg e26
        have z0 := kz.frozen 0
        have z1 := kz.frozen 1
        have q0 := kz.cell 0
        have q1 := kz.cell 1
        clear kz hS
        go_simp
        exact ⟨hnx _, trivial, trivial⟩
    · as_aux_lemma =>
        intro a W vals hv hn hS hL hp hd
        have e27 : a.tmps.getD 27 undef = .agg #[.int .i64 p2, .int .i64 q2] := hL.1
        clear hL
        obtain ⟨g, hg, kz, hnx⟩ := hS.at3 hv hn hp.1 hd.1 hd.2.1
        rw [Array.getD_eq_getD_getElem?] at hg e27
        have z0 := kz.frozen 0
        have z1 := kz.frozen 1
        have q0 := kz.cell 0
        have q1 := kz.cell 1
        clear kz hS
        go_simp
        exact ⟨hnx _, trivial, trivial⟩
  · intro a W' vals hd hsz hT hF hv hall hP hS
    obtain ⟨g0, g1, hv0, hv1, hg0, hg1, hg01, hn0, hn1, hB⟩ := hS.fin hv hall
    simp only [List.mem_cons, List.not_mem_nil, or_false, forall_eq_or_imp, forall_eq] at hn0
    have e7 : a.tmps.getD 7 undef = .pointer (some ⟨g0, 0, none⟩) := (hP 0 8 _ 7 _ rfl rfl rfl hv0).symm
    simp only [List.mem_cons, List.not_mem_nil, or_false, forall_eq_or_imp, forall_eq] at hn1
    have e8 : a.tmps.getD 8 undef = .pointer (some ⟨g1, 0, none⟩) := (hP 1 9 _ 8 _ rfl rfl rfl hv1).symm
    have e2 : a.tmps.getD 2 undef = .pointer (some ⟨w.heap.size, 0, none⟩) := hT 2 (by simp)
    have e3 : a.tmps.getD 3 undef = .pointer (some ⟨w.heap.size + 1, 0, none⟩) := hT 3 (by simp)
    have e5 : a.tmps.getD 5 undef = .pointer (some ⟨w2.heap.size, 0, none⟩) := hT 5 (by simp)
    have e6 : a.tmps.getD 6 undef = .pointer (some ⟨w2.heap.size + 1, 0, none⟩) := hT 6 (by simp)
    clear hT hF hP hS hall hv0 hv1
    rw [act_lit 75 a hd hsz]
    simp only [List.range, List.range.loop, List.map, e2, e3, e5, e6, e7, e8]
    clear hd hsz e2 e3 e5 e6 e7 e8
    have HB3 := Lib.hid hB
    clear HB hB HB2
    go_wp2_with fail
    refine wp_region_phases (S := (fun vals W => SX w 2 ([] : List Stp) vals ([(g1, 34, #[.int .i64 p2, .int .i64 q2]), (g0, 34, #[.int .i64 p, .int .i64 q]), (w2.heap.size + 1, 25, #[.int .i64 p2, .int .i64 q2]), (w2.heap.size, 25, #[.int .i64 p, .int .i64 q]), (w.heap.size + 1, 25, #[.int .i64 b, .int .i64 d]), (w.heap.size, 42, #[.int .i64 r1, .int .i64 c1, .bool x1, .bool y1, .int .i64 r2, .int .i64 c2, .bool x2, .bool y2])] : List (Nat × TypeId × Array Value)) W)) (E := (fun _ _ => True)) [] [(2, Is (.pointer (some ⟨w.heap.size, 0, none⟩))), (3, Is (.pointer (some ⟨w.heap.size + 1, 0, none⟩))), (5, Is (.pointer (some ⟨w2.heap.size, 0, none⟩))), (6, Is (.pointer (some ⟨w2.heap.size + 1, 0, none⟩))), (7, Is (.pointer (some ⟨g0, 0, none⟩))), (8, Is (.pointer (some ⟨g1, 0, none⟩)))] [(28, Is (.agg #[.int .i64 p, .int .i64 q])), (29, Is (.agg #[.int .i64 p, .int .i64 q])), (30, Is (.agg #[.int .i64 p, .int .i64 q])), (31, Is (.bool false)), (32, Is (.bool false)), (33, Is (.agg #[.int .i64 p2, .int .i64 q2])), (34, Is (.agg #[.int .i64 p2, .int .i64 q2])), (35, Is (.agg #[.int .i64 p2, .int .i64 q2])), (36, Is (.bool false)), (37, Is (.bool false)), (38, Is (.bool false)), (39, Is (.agg #[.int .i64 r1, .int .i64 c1, .bool x1, .bool y1, .int .i64 r2, .int .i64 c2, .bool x2, .bool y2])), (40, Is (.int .i64 ka)), (41, Is (.agg #[.int .i64 r1, .int .i64 c1, .bool x1, .bool y1, .int .i64 r2, .int .i64 c2, .bool x2, .bool y2])), (42, Is (.agg #[.int .i64 r1, .int .i64 c1, .bool x1, .bool y1, .int .i64 r2, .int .i64 c2, .bool x2, .bool y2])), (43, Is (.int .i64 ka)), (44, Is (.bool false)), (45, Is (.bool false))]
      [.op [5] none, .op [28] none, .op [7] none, .op [29, 30] none, .op [31] none, .op [6, 32] (some (32, false)), .op [33, 32] (some (32, false)), .op [8, 32] (some (32, false)), .op [34, 35, 32] (some (32, false)), .op [32, 36] none, .op [37] none, .op [2, 38] (some (38, false)), .op [39, 38] (some (38, false)), .op [2, 38] (some (38, false)), .op [41, 38] (some (38, false)), .op [42, 38] (some (38, false)), .op [40, 43, 38] (some (38, false)), .op [38, 44] none] (by as_aux_lemma => kernel_rfl) ?_ ?_ ?_ ?_ ?_ ⟨stable_is _ _, stable_is _ _, stable_is _ _, stable_is _ _, stable_is _ _, stable_is _ _, stable_is _ _, stable_is _ _, stable_is _ _, stable_is _ _, stable_is _ _, stable_is _ _, stable_is _ _, stable_is _ _, stable_is _ _, stable_is _ _, stable_is _ _, stable_is _ _, stable_is _ _, stable_is _ _, stable_is _ _, stable_is _ _, stable_is _ _, stable_is _ _, trivial⟩ ?_ (HB3.out.drew) ?_ ?_
    · as_aux_lemma => kernel_rfl
    · as_aux_lemma => kernel_rfl
    · as_aux_lemma => kernel_rfl
    · as_aux_lemma => kernel_rfl
    · as_aux_lemma => kernel_rfl
    · exact ⟨rfl, rfl, rfl, rfl, rfl, rfl, trivial⟩
    · refine ⟨?_, ?_, ?_, ?_, ?_, ?_, ?_, ?_, ?_, ?_, ?_, ?_, ?_, ?_, ?_, ?_, ?_, ?_, trivial⟩
      · as_aux_lemma =>
          intro vals a W hS hL
          have e5 : a.tmps.getD 5 undef = .pointer (some ⟨w2.heap.size, 0, none⟩) := hL.1
          clear hL
          have kb : Bk W (w2.heap.size) 25 #[.int .i64 p, .int .i64 q] := hS.bk 3 rfl rfl
          have f0 := kb.cell 0
          have f1 := kb.cell 1
          clear kb
          go_simp
          exact ⟨⟨fun d hd => by injection hd with hd; subst hd; rfl, fun h => by cases h⟩, hS, trivial⟩
      · as_aux_lemma =>
          intro vals a W hS hL
          have e28 : a.tmps.getD 28 undef = .agg #[.int .i64 p, .int .i64 q] := hL.1
          clear hL
          go_simp
          refine (H3.out W).mono ?_
          rintro e W' ⟨rfl, hb⟩
          exact ⟨_, rfl, ⟨fun d hd => by injection hd with hd; subst hd; rfl, fun h => by cases h⟩, hS.call hb, trivial⟩
      · as_aux_lemma =>
          intro vals a W hS hL
          have e7 : a.tmps.getD 7 undef = .pointer (some ⟨g0, 0, none⟩) := hL.1
          clear hL
          have kb : Bk W (g0) 34 #[.int .i64 p, .int .i64 q] := hS.bk 1 rfl rfl
          have f0 := kb.cell 0
          have f1 := kb.cell 1
          clear kb
          go_simp
          exact ⟨⟨fun d hd => by injection hd with hd; subst hd; rfl, fun h => by cases h⟩, hS, trivial⟩
      · as_aux_lemma =>
          intro vals a W hS hL
          have e29 : a.tmps.getD 29 undef = .agg #[.int .i64 p, .int .i64 q] := hL.1
          have e30 : a.tmps.getD 30 undef = .agg #[.int .i64 p, .int .i64 q] := hL.2.1
          clear hL
          go_simp
          exact ⟨⟨fun d hd => by injection hd with hd; subst hd; rfl, fun h => by cases h⟩, hS, trivial⟩
      · as_aux_lemma =>
          intro vals a W hS hL
          have e31 : a.tmps.getD 31 undef = .bool false := hL.1
          clear hL
          go_simp
          exact ⟨⟨fun d hd => by injection hd with hd; subst hd; rfl, fun h => by cases h⟩, hS, trivial⟩
      · as_aux_lemma =>
          intro vals a W hS hL
          have e6 : a.tmps.getD 6 undef = .pointer (some ⟨w2.heap.size + 1, 0, none⟩) := hL.1
          have e32 : a.tmps.getD 32 undef = .bool false := hL.2.1
          clear hL
          refine ⟨false, e32, ?_⟩
          rw [if_pos rfl]
          have kb : Bk W (w2.heap.size + 1) 25 #[.int .i64 p2, .int .i64 q2] := hS.bk 2 rfl rfl
          have f0 := kb.cell 0
          have f1 := kb.cell 1
          clear kb
          go_simp
          exact ⟨⟨fun d hd => by injection hd with hd; subst hd; rfl, fun h => by cases h⟩, hS, trivial⟩
      · as_aux_lemma =>
          intro vals a W hS hL
          have e33 : a.tmps.getD 33 undef = .agg #[.int .i64 p2, .int .i64 q2] := hL.1
          have e32 : a.tmps.getD 32 undef = .bool false := hL.2.1
          clear hL
          refine ⟨false, e32, ?_⟩
          rw [if_pos rfl]
          go_simp
          refine (H4.out W).mono ?_
          rintro e W' ⟨rfl, hb⟩
          exact ⟨_, rfl, ⟨fun d hd => by injection hd with hd; subst hd; rfl, fun h => by cases h⟩, hS.call hb, trivial⟩
      · as_aux_lemma =>
          intro vals a W hS hL
          have e8 : a.tmps.getD 8 undef = .pointer (some ⟨g1, 0, none⟩) := hL.1
          have e32 : a.tmps.getD 32 undef = .bool false := hL.2.1
          clear hL
          refine ⟨false, e32, ?_⟩
          rw [if_pos rfl]
          have kb : Bk W (g1) 34 #[.int .i64 p2, .int .i64 q2] := hS.bk 0 rfl rfl
          have f0 := kb.cell 0
          have f1 := kb.cell 1
          clear kb
          go_simp
          exact ⟨⟨fun d hd => by injection hd with hd; subst hd; rfl, fun h => by cases h⟩, hS, trivial⟩
      · as_aux_lemma =>
          intro vals a W hS hL
          have e34 : a.tmps.getD 34 undef = .agg #[.int .i64 p2, .int .i64 q2] := hL.1
          have e35 : a.tmps.getD 35 undef = .agg #[.int .i64 p2, .int .i64 q2] := hL.2.1
          have e32 : a.tmps.getD 32 undef = .bool false := hL.2.2.1
          clear hL
          refine ⟨false, e32, ?_⟩
          rw [if_pos rfl]
          go_simp
          exact ⟨⟨fun d hd => by injection hd with hd; subst hd; rfl, fun h => by cases h⟩, hS, trivial⟩
      · as_aux_lemma =>
          intro vals a W hS hL
          have e32 : a.tmps.getD 32 undef = .bool false := hL.1
          have e36 : a.tmps.getD 36 undef = .bool false := hL.2.1
          clear hL
          go_simp
          exact ⟨⟨fun d hd => by injection hd with hd; subst hd; rfl, fun h => by cases h⟩, hS, trivial⟩
      · as_aux_lemma =>
          intro vals a W hS hL
          have e37 : a.tmps.getD 37 undef = .bool false := hL.1
          clear hL
          go_simp
          exact ⟨⟨fun d hd => by injection hd with hd; subst hd; rfl, fun h => by cases h⟩, hS, trivial⟩
      · as_aux_lemma =>
          intro vals a W hS hL
          have e2 : a.tmps.getD 2 undef = .pointer (some ⟨w.heap.size, 0, none⟩) := hL.1
          have e38 : a.tmps.getD 38 undef = .bool false := hL.2.1
          clear hL
          refine ⟨false, e38, ?_⟩
          rw [if_pos rfl]
          have kb : Bk W (w.heap.size) 42 #[.int .i64 r1, .int .i64 c1, .bool x1, .bool y1, .int .i64 r2, .int .i64 c2, .bool x2, .bool y2] := hS.bk 5 rfl rfl
          have f0 := kb.cell 0
          have f1 := kb.cell 1
          have f2 := kb.cell 2
          have f3 := kb.cell 3
          have f4 := kb.cell 4
          have f5 := kb.cell 5
          have f6 := kb.cell 6
          have f7 := kb.cell 7
          clear kb
          go_simp
          exact ⟨⟨fun d hd => by injection hd with hd; subst hd; rfl, fun h => by cases h⟩, hS, trivial⟩
      · as_aux_lemma =>
          intro vals a W hS hL
          have e39 : a.tmps.getD 39 undef = .agg #[.int .i64 r1, .int .i64 c1, .bool x1, .bool y1, .int .i64 r2, .int .i64 c2, .bool x2, .bool y2] := hL.1
          have e38 : a.tmps.getD 38 undef = .bool false := hL.2.1
          clear hL
          refine ⟨false, e38, ?_⟩
          rw [if_pos rfl]
          go_simp
          refine (H5.out W).mono ?_
          rintro e W' ⟨rfl, hb⟩
          exact ⟨_, rfl, ⟨fun d hd => by injection hd with hd; subst hd; rfl, fun h => by cases h⟩, hS.call hb, trivial⟩
      · as_aux_lemma =>
          intro vals a W hS hL
          have e2 : a.tmps.getD 2 undef = .pointer (some ⟨w.heap.size, 0, none⟩) := hL.1
          have e38 : a.tmps.getD 38 undef = .bool false := hL.2.1
          clear hL
          refine ⟨false, e38, ?_⟩
          rw [if_pos rfl]
          have kb : Bk W (w.heap.size) 42 #[.int .i64 r1, .int .i64 c1, .bool x1, .bool y1, .int .i64 r2, .int .i64 c2, .bool x2, .bool y2] := hS.bk 5 rfl rfl
          have f0 := kb.cell 0
          have f1 := kb.cell 1
          have f2 := kb.cell 2
          have f3 := kb.cell 3
          have f4 := kb.cell 4
          have f5 := kb.cell 5
          have f6 := kb.cell 6
          have f7 := kb.cell 7
          clear kb
          go_simp
          exact ⟨⟨fun d hd => by injection hd with hd; subst hd; rfl, fun h => by cases h⟩, hS, trivial⟩
      · as_aux_lemma =>
          intro vals a W hS hL
          have e41 : a.tmps.getD 41 undef = .agg #[.int .i64 r1, .int .i64 c1, .bool x1, .bool y1, .int .i64 r2, .int .i64 c2, .bool x2, .bool y2] := hL.1
          have e38 : a.tmps.getD 38 undef = .bool false := hL.2.1
          clear hL
          refine ⟨false, e38, ?_⟩
          rw [if_pos rfl]
          go_simp
          refine (H1.out W).mono ?_
          rintro e W' ⟨rfl, hb⟩
          exact ⟨_, rfl, ⟨fun d hd => by injection hd with hd; subst hd; rfl, fun h => by cases h⟩, hS.call hb, trivial⟩
      · as_aux_lemma =>
          intro vals a W hS hL
          have e42 : a.tmps.getD 42 undef = .agg #[.int .i64 r1, .int .i64 c1, .bool x1, .bool y1, .int .i64 r2, .int .i64 c2, .bool x2, .bool y2] := hL.1
          have e38 : a.tmps.getD 38 undef = .bool false := hL.2.1
          clear hL
          refine ⟨false, e38, ?_⟩
          rw [if_pos rfl]
          go_simp
          refine (H6.out W).mono ?_
          rintro e W' ⟨rfl, hb⟩
          exact ⟨_, rfl, ⟨fun d hd => by injection hd with hd; subst hd; rfl, fun h => by cases h⟩, hS.call hb, trivial⟩
      · as_aux_lemma =>
          intro vals a W hS hL
          have e40 : a.tmps.getD 40 undef = .int .i64 ka := hL.1
          have e43 : a.tmps.getD 43 undef = .int .i64 ka := hL.2.1
          have e38 : a.tmps.getD 38 undef = .bool false := hL.2.2.1
          clear hL
          refine ⟨false, e38, ?_⟩
          rw [if_pos rfl]
          go_simp
          exact ⟨⟨fun d hd => by injection hd with hd; subst hd; rfl, fun h => by cases h⟩, hS, trivial⟩
      · as_aux_lemma =>
          intro vals a W hS hL
          have e38 : a.tmps.getD 38 undef = .bool false := hL.1
          have e44 : a.tmps.getD 44 undef = .bool false := hL.2.1
          clear hL
          go_simp
          exact ⟨⟨fun d hd => by injection hd with hd; subst hd; rfl, fun h => by cases h⟩, hS, trivial⟩
    · intro a W' vals hd hsz hT hF hv hP hS
      obtain rfl : vals = [] := List.eq_nil_of_length_eq_zero hv
      have hS2 : SX w 2 ([] : List Stp) [] ([(g1, 34, #[.int .i64 p2, .int .i64 q2]), (g0, 34, #[.int .i64 p, .int .i64 q]), (w2.heap.size + 1, 25, #[.int .i64 p2, .int .i64 q2]), (w2.heap.size, 25, #[.int .i64 p, .int .i64 q]), (w.heap.size + 1, 25, #[.int .i64 b, .int .i64 d]), (w.heap.size, 42, #[.int .i64 r1, .int .i64 c1, .bool x1, .bool y1, .int .i64 r2, .int .i64 c2, .bool x2, .bool y2])] : List (Nat × TypeId × Array Value)) W' := hS
      clear hS
      have hB0 := hS2
      have hB : SB w 2 ([(g1, 34, #[.int .i64 p2, .int .i64 q2]), (g0, 34, #[.int .i64 p, .int .i64 q]), (w2.heap.size + 1, 25, #[.int .i64 p2, .int .i64 q2]), (w2.heap.size, 25, #[.int .i64 p, .int .i64 q]), (w.heap.size + 1, 25, #[.int .i64 b, .int .i64 d]), (w.heap.size, 42, #[.int .i64 r1, .int .i64 c1, .bool x1, .bool y1, .int .i64 r2, .int .i64 c2, .bool x2, .bool y2])] : List (Nat × TypeId × Array Value)) W' := hB0
      clear hB0
      have e2 : a.tmps.getD 2 undef = .pointer (some ⟨w.heap.size, 0, none⟩) := hT 2 (by simp)
      have e3 : a.tmps.getD 3 undef = .pointer (some ⟨w.heap.size + 1, 0, none⟩) := hT 3 (by simp)
      have e5 : a.tmps.getD 5 undef = .pointer (some ⟨w2.heap.size, 0, none⟩) := hT 5 (by simp)
      have e6 : a.tmps.getD 6 undef = .pointer (some ⟨w2.heap.size + 1, 0, none⟩) := hT 6 (by simp)
      have e7 : a.tmps.getD 7 undef = .pointer (some ⟨g0, 0, none⟩) := hT 7 (by simp)
      have e8 : a.tmps.getD 8 undef = .pointer (some ⟨g1, 0, none⟩) := hT 8 (by simp)
      have e45 : a.tmps.getD 45 undef = .bool false := hT 45 (by simp)
      clear hT hF hP
      rw [act_lit 75 a hd hsz]
      simp only [List.range, List.range.loop, List.map, e2, e3, e5, e6, e7, e8, e45]
      clear hd hsz e2 e3 e5 e6 e7 e8 e45
      have HB4 := Lib.hid hB
      clear HB3 hB H3 H4 H5 H6
      go_wp2_with fail
      refine wp_region_phases (S := (fun _ W => SB w 2 ([(g1, 34, #[.int .i64 p2, .int .i64 q2]), (g0, 34, #[.int .i64 p, .int .i64 q]), (w2.heap.size + 1, 25, #[.int .i64 p2, .int .i64 q2]), (w2.heap.size, 25, #[.int .i64 p, .int .i64 q]), (w.heap.size + 1, 25, #[.int .i64 b, .int .i64 d]), (w.heap.size, 42, #[.int .i64 r1, .int .i64 c1, .bool x1, .bool y1, .int .i64 r2, .int .i64 c2, .bool x2, .bool y2])] : List (Nat × TypeId × Array Value)) W)) (E := (fun W W' => Below W.heap.size W W')) [] [(2, Is (.pointer (some ⟨w.heap.size, 0, none⟩))), (3, Is (.pointer (some ⟨w.heap.size + 1, 0, none⟩))), (5, Is (.pointer (some ⟨w2.heap.size, 0, none⟩))), (6, Is (.pointer (some ⟨w2.heap.size + 1, 0, none⟩))), (7, Is (.pointer (some ⟨g0, 0, none⟩))), (8, Is (.pointer (some ⟨g1, 0, none⟩)))] [(46, Is (.agg #[.int .i64 r1, .int .i64 c1, .bool x1, .bool y1, .int .i64 r2, .int .i64 c2, .bool x2, .bool y2])), (47, Is (.agg #[.int .i64 b, .int .i64 d])), (48, RowC 0 xs), (49, Is (.agg #[.int .i64 r1, .int .i64 c1, .bool x1, .bool y1, .int .i64 r2, .int .i64 c2, .bool x2, .bool y2])), (50, Is (.agg #[.int .i64 r1, .int .i64 c1, .bool x1, .bool y1, .int .i64 r2, .int .i64 c2, .bool x2, .bool y2])), (51, Is (.agg #[.int .i64 b, .int .i64 d])), (52, Is (.agg #[.int .i64 b, .int .i64 d])), (53, RowC 0 xs), (9, RowC 0 xs), (10, RowC 0 xs)]
        [.op [2] none, .op [3] none, .op [46, 47] none, .op [2] none, .op [49] none, .op [3] none, .op [51] none, .op [50, 52] none, .op [48] none, .op [53] none] (by as_aux_lemma => kernel_rfl) ?_ ?_ ?_ ?_ ?_ ⟨stable_is _ _, stable_is _ _, stable_is _ _, stable_is _ _, stable_is _ _, stable_is _ _, stable_is _ _, stable_is _ _, (fun _ _ _ hb h => row_stable hb h), stable_is _ _, stable_is _ _, stable_is _ _, stable_is _ _, (fun _ _ _ hb h => row_stable hb h), (fun _ _ _ hb h => row_stable hb h), (fun _ _ _ hb h => row_stable hb h), trivial⟩ ?_ HB4.out.drew ?_ ?_
      · as_aux_lemma => kernel_rfl
      · as_aux_lemma => kernel_rfl
      · as_aux_lemma => kernel_rfl
      · as_aux_lemma => kernel_rfl
      · as_aux_lemma => kernel_rfl
      · exact ⟨rfl, rfl, rfl, rfl, rfl, rfl, trivial⟩
      · refine ⟨?_, ?_, ?_, ?_, ?_, ?_, ?_, ?_, ?_, ?_, trivial⟩
        · as_aux_lemma =>
            intro vals a W hS hL
            have e2 : a.tmps.getD 2 undef = .pointer (some ⟨w.heap.size, 0, none⟩) := hL.1
            clear hL
            have kb : Bk W (w.heap.size) 42 #[.int .i64 r1, .int .i64 c1, .bool x1, .bool y1, .int .i64 r2, .int .i64 c2, .bool x2, .bool y2] := hS.box (i := 5) rfl
            have f0 := kb.cell 0
            have f1 := kb.cell 1
            have f2 := kb.cell 2
            have f3 := kb.cell 3
            have f4 := kb.cell 4
            have f5 := kb.cell 5
            have f6 := kb.cell 6
            have f7 := kb.cell 7
            clear kb
            go_simp
            exact ⟨⟨fun d hd => by injection hd with hd; subst hd; rfl, fun h => by cases h⟩, hS, Below.refl _ _⟩
        · as_aux_lemma =>
            intro vals a W hS hL
            have e3 : a.tmps.getD 3 undef = .pointer (some ⟨w.heap.size + 1, 0, none⟩) := hL.1
            clear hL
            have kb : Bk W (w.heap.size + 1) 25 #[.int .i64 b, .int .i64 d] := hS.box (i := 4) rfl
            have f0 := kb.cell 0
            have f1 := kb.cell 1
            clear kb
            go_simp
            exact ⟨⟨fun d hd => by injection hd with hd; subst hd; rfl, fun h => by cases h⟩, hS, Below.refl _ _⟩
        · as_aux_lemma =>
            intro vals a W hS hL
            have e46 : a.tmps.getD 46 undef = .agg #[.int .i64 r1, .int .i64 c1, .bool x1, .bool y1, .int .i64 r2, .int .i64 c2, .bool x2, .bool y2] := hL.1
            have e47 : a.tmps.getD 47 undef = .agg #[.int .i64 b, .int .i64 d] := hL.2.1
            clear hL
            go_simp
            refine (HC1.out W).mono ?_
            rintro e W' ⟨⟨v, rfl, ho⟩, hb⟩
            exact ⟨_, rfl, ⟨fun d hd => by injection hd with hd; subst hd; exact row_of ho, fun h => by cases h⟩, hS.call hb, hb⟩
        · as_aux_lemma =>
            intro vals a W hS hL
            have e2 : a.tmps.getD 2 undef = .pointer (some ⟨w.heap.size, 0, none⟩) := hL.1
            clear hL
            have kb : Bk W (w.heap.size) 42 #[.int .i64 r1, .int .i64 c1, .bool x1, .bool y1, .int .i64 r2, .int .i64 c2, .bool x2, .bool y2] := hS.box (i := 5) rfl
            have f0 := kb.cell 0
            have f1 := kb.cell 1
            have f2 := kb.cell 2
            have f3 := kb.cell 3
            have f4 := kb.cell 4
            have f5 := kb.cell 5
            have f6 := kb.cell 6
            have f7 := kb.cell 7
            clear kb
            go_simp
            exact ⟨⟨fun d hd => by injection hd with hd; subst hd; rfl, fun h => by cases h⟩, hS, Below.refl _ _⟩
        · as_aux_lemma =>
            intro vals a W hS hL
            have e49 : a.tmps.getD 49 undef = .agg #[.int .i64 r1, .int .i64 c1, .bool x1, .bool y1, .int .i64 r2, .int .i64 c2, .bool x2, .bool y2] := hL.1
            clear hL
            go_simp
            refine (H1.out W).mono ?_
            rintro e W' ⟨rfl, hb⟩
            exact ⟨_, rfl, ⟨fun d hd => by injection hd with hd; subst hd; rfl, fun h => by cases h⟩, hS.call hb, hb⟩
        · as_aux_lemma =>
            intro vals a W hS hL
            have e3 : a.tmps.getD 3 undef = .pointer (some ⟨w.heap.size + 1, 0, none⟩) := hL.1
            clear hL
            have kb : Bk W (w.heap.size + 1) 25 #[.int .i64 b, .int .i64 d] := hS.box (i := 4) rfl
            have f0 := kb.cell 0
            have f1 := kb.cell 1
            clear kb
            go_simp
            exact ⟨⟨fun d hd => by injection hd with hd; subst hd; rfl, fun h => by cases h⟩, hS, Below.refl _ _⟩
        · as_aux_lemma =>
            intro vals a W hS hL
            have e51 : a.tmps.getD 51 undef = .agg #[.int .i64 b, .int .i64 d] := hL.1
            clear hL
            go_simp
            refine (H2.out W).mono ?_
            rintro e W' ⟨rfl, hb⟩
            exact ⟨_, rfl, ⟨fun d hd => by injection hd with hd; subst hd; rfl, fun h => by cases h⟩, hS.call hb, hb⟩
        · as_aux_lemma =>
            intro vals a W hS hL
            have e50 : a.tmps.getD 50 undef = .agg #[.int .i64 r1, .int .i64 c1, .bool x1, .bool y1, .int .i64 r2, .int .i64 c2, .bool x2, .bool y2] := hL.1
            have e52 : a.tmps.getD 52 undef = .agg #[.int .i64 b, .int .i64 d] := hL.2.1
            clear hL
            go_simp
            refine (HC2.out W).mono ?_
            rintro e W' ⟨⟨v, rfl, ho⟩, hb⟩
            exact ⟨_, rfl, ⟨fun d hd => by injection hd with hd; subst hd; exact row_of ho, fun h => by cases h⟩, hS.call hb, hb⟩
        · as_aux_lemma =>
            intro vals a W hS hL
            have e48 := hL.1
            clear hL
            obtain ⟨A0, cc, hv, hnc, hr⟩ : RowC 0 xs (a.tmps.getD 48 undef) W := e48
            rw [Array.getD_eq_getD_getElem?] at hv
            go_simp
            exact ⟨⟨fun d hd => by injection hd with hd; subst hd; exact ⟨A0, cc, rfl, hnc, hr⟩, fun h => by cases h⟩, hS, Below.refl _ _⟩
        · as_aux_lemma =>
            intro vals a W hS hL
            have e53 := hL.1
            clear hL
            obtain ⟨A0, cc, hv, hnc, hr⟩ : RowC 0 xs (a.tmps.getD 53 undef) W := e53
            rw [Array.getD_eq_getD_getElem?] at hv
            go_simp
            exact ⟨⟨fun d hd => by injection hd with hd; subst hd; exact ⟨A0, cc, rfl, hnc, hr⟩, fun h => by cases h⟩, hS, Below.refl _ _⟩
      · intro a W' vals hd hsz hT hF hv hP hS
        have hB : SB w 2 ([(g1, 34, #[.int .i64 p2, .int .i64 q2]), (g0, 34, #[.int .i64 p, .int .i64 q]), (w2.heap.size + 1, 25, #[.int .i64 p2, .int .i64 q2]), (w2.heap.size, 25, #[.int .i64 p, .int .i64 q]), (w.heap.size + 1, 25, #[.int .i64 b, .int .i64 d]), (w.heap.size, 42, #[.int .i64 r1, .int .i64 c1, .bool x1, .bool y1, .int .i64 r2, .int .i64 c2, .bool x2, .bool y2])] : List (Nat × TypeId × Array Value)) W' := hS
        obtain ⟨A9, k9, e9, hk9, hr9⟩ : RowC 0 xs (a.tmps.getD 9 undef) W' := hT 9 (by simp)
        obtain ⟨A10, k10, e10, hk10, hr10⟩ : RowC 0 xs (a.tmps.getD 10 undef) W' := hT 10 (by simp)
        have e2 : a.tmps.getD 2 undef = .pointer (some ⟨w.heap.size, 0, none⟩) := hT 2 (by simp)
        have e3 : a.tmps.getD 3 undef = .pointer (some ⟨w.heap.size + 1, 0, none⟩) := hT 3 (by simp)
        have e5 : a.tmps.getD 5 undef = .pointer (some ⟨w2.heap.size, 0, none⟩) := hT 5 (by simp)
        have e6 : a.tmps.getD 6 undef = .pointer (some ⟨w2.heap.size + 1, 0, none⟩) := hT 6 (by simp)
        have e7 : a.tmps.getD 7 undef = .pointer (some ⟨g0, 0, none⟩) := hT 7 (by simp)
        have e8 : a.tmps.getD 8 undef = .pointer (some ⟨g1, 0, none⟩) := hT 8 (by simp)
        clear hT hF hP hS hv
        rw [act_lit 75 a hd hsz]
        simp only [List.range, List.range.loop, List.map, e2, e3, e5, e6, e7, e8, e9, e10]
        clear hd hsz e2 e3 e5 e6 e7 e8 e9 e10
        have hbel := hB.bel
        clear hB HB4 hr9 hr10 H1 H2 HC1 HC2
        go_wp2
        go_loopw [11] (fun i wr => i = .int .i64 0 ∧ wr = W') (fun _ _ => 0)
        case atStart => exact ⟨by first | rfl | trivial, by first | rfl | trivial⟩
        case round =>
          obtain ⟨rfl, rfl⟩ := hrel
          go_wp2
          go_ret
          exact ⟨rfl, hbel⟩

set_option maxRecDepth 20000 in
set_option maxHeartbeats 4000000 in
theorem areas_some {w : World} (HV : Tens w) (r1 c1 r2 c2 b d : Int) (x1 y1 x2 y2 : Bool) {p q p2 q2 : Int} {n : Nat} {xs : List Value}
    (HB1 : Hid (∀ W : World, Calls Tryd.prog 20 #[.agg #[.int .i64 r1, .int .i64 c1, .bool x1, .bool y1, .int .i64 r2, .int .i64 c2, .bool x2, .bool y2], .agg #[.int .i64 b, .int .i64 d]] W fun e w' => e = .returned (.tuple #[.agg #[.int .i64 p, .int .i64 q], .agg #[.int .i64 p2, .int .i64 q2]]) ∧ Below W.heap.size W w'))
    (HB2 : Hid (∀ W : World, Calls Tryd.prog 21 #[.agg #[.int .i64 r1, .int .i64 c1, .bool x1, .bool y1, .int .i64 r2, .int .i64 c2, .bool x2, .bool y2], .agg #[.int .i64 b, .int .i64 d]] W fun e w' => e = .returned (.tuple #[.agg #[.int .i64 p, .int .i64 q], .agg #[.int .i64 p2, .int .i64 q2]]) ∧ Below W.heap.size W w'))
    (HC1 : Hid (∀ W : World, Calls Tryd.prog 25 #[.agg #[.int .i64 r1, .int .i64 c1, .bool x1, .bool y1, .int .i64 r2, .int .i64 c2, .bool x2, .bool y2], .agg #[.int .i64 b, .int .i64 d]] W fun e w' => (∃ v, e = .returned v ∧ w'.ownsRow W.heap.size 25 2 v n xs) ∧ Below W.heap.size W w'))
    (HC2 : Hid (∀ W : World, Calls Tryd.prog 26 #[.agg #[.int .i64 r1, .int .i64 c1, .bool x1, .bool y1, .int .i64 r2, .int .i64 c2, .bool x2, .bool y2], .agg #[.int .i64 b, .int .i64 d]] W fun e w' => (∃ v, e = .returned v ∧ w'.ownsRow W.heap.size 34 2 v n xs) ∧ Below W.heap.size W w'))
    (hn4 : n ≤ 4096) (hnp : 0 < n) (HX : Hid (∀ j, j < n → ∃ R C : Int, xs[j * 2]? = some (.int .i64 R) ∧ xs[j * 2 + 1]? = some (.int .i64 C))) :
    Calls Tryd.prog 4 #[.agg #[.int .i64 r1, .int .i64 c1, .bool x1, .bool y1, .int .i64 r2, .int .i64 c2, .bool x2, .bool y2], .agg #[.int .i64 b, .int .i64 d]] w fun e w' => e = .returned (.bool true) ∧ Below w.heap.size w w' := by
  have HK : Hid (∀ W : World, Below w.heap.size w W → Calls Tryd.prog 9 #[] W fun e w' => e = .returned (.bool true) ∧ Below W.heap.size W w') := Lib.hid (fun W hb => known8_any (HV.below hb))
  have H1 : Hid (∀ W : World, Calls Tryd.prog 22 #[.agg #[.int .i64 r1, .int .i64 c1, .bool x1, .bool y1, .int .i64 r2, .int .i64 c2, .bool x2, .bool y2]] W fun e w' => e = .returned (.agg #[.int .i64 r1, .int .i64 c1, .bool x1, .bool y1, .int .i64 r2, .int .i64 c2, .bool x2, .bool y2]) ∧ Below W.heap.size W w') := Lib.hid (fun W => ofArea_any r1 c1 r2 c2 x1 y1 x2 y2)
  have H2 : Hid (∀ W : World, Calls Tryd.prog 15 #[.agg #[.int .i64 b, .int .i64 d]] W fun e w' => e = .returned (.agg #[.int .i64 b, .int .i64 d]) ∧ Below W.heap.size W w') := Lib.hid (fun W => ofCell_any b d)
  have H3 : Hid (∀ W : World, Calls Tryd.prog 15 #[.agg #[.int .i64 p, .int .i64 q]] W fun e w' => e = .returned (.agg #[.int .i64 p, .int .i64 q]) ∧ Below W.heap.size W w') := Lib.hid (fun W => ofCell_any p q)
  have H4 : Hid (∀ W : World, Calls Tryd.prog 15 #[.agg #[.int .i64 p2, .int .i64 q2]] W fun e w' => e = .returned (.agg #[.int .i64 p2, .int .i64 q2]) ∧ Below W.heap.size W w') := Lib.hid (fun W => ofCell_any p2 q2)
  have H5 : Hid (∀ W : World, Calls Tryd.prog 23 #[.agg #[.int .i64 r1, .int .i64 c1, .bool x1, .bool y1, .int .i64 r2, .int .i64 c2, .bool x2, .bool y2]] W fun e w' => e = .returned (.int .i64 (ckA r1 c1 r2 c2)) ∧ Below W.heap.size W w') := Lib.hid (fun W => checkArea_any r1 c1 r2 c2 x1 y1 x2 y2)
  have H6 : Hid (∀ W : World, Calls Tryd.prog 24 #[.agg #[.int .i64 r1, .int .i64 c1, .bool x1, .bool y1, .int .i64 r2, .int .i64 c2, .bool x2, .bool y2]] W fun e w' => e = .returned (.int .i64 (ckA r1 c1 r2 c2)) ∧ Below W.heap.size W w') := Lib.hid (fun W => bCheckArea_any r1 c1 r2 c2 x1 y1 x2 y2)
  generalize ckA r1 c1 r2 c2 = ka at *
  clear HV
  have HB : Hid (SB w 2 ([(w.heap.size + 1, 25, #[.int .i64 b, .int .i64 d]), (w.heap.size, 42, #[.int .i64 r1, .int .i64 c1, .bool x1, .bool y1, .int .i64 r2, .int .i64 c2, .bool x2, .bool y2])] : List (Nat × TypeId × Array Value)) ((w.alloc (.cells #[.int .i64 r1, .int .i64 c1, .bool x1, .bool y1, .int .i64 r2, .int .i64 c2, .bool x2, .bool y2] 42)).alloc (.cells #[.int .i64 b, .int .i64 d] 25))) := Lib.hid ((sb1 w 42 #[.int .i64 r1, .int .i64 c1, .bool x1, .bool y1, .int .i64 r2, .int .i64 c2, .bool x2, .bool y2]).push (by simp) 25 #[.int .i64 b, .int .i64 d])
  go_enter Tryd.func4, Tryd.ntmps4
  go_wp2_with fail
  refine (HK.out _ HB.out.bel).mono ?_
  rintro e w1 ⟨rfl, hb⟩
  have hB := HB.out.call hb
  clear hb HB
  have HB := Lib.hid hB
  clear hB
  clear HK
  have ks := HB.out.box (i := 0) rfl
  have cs0 := ks.cell 0
  have cs1 := ks.cell 1
  clear ks
  have kr := HB.out.box (i := 1) rfl
  have cr0 := kr.cell 0
  have cr1 := kr.cell 1
  have cr2 := kr.cell 2
  have cr3 := kr.cell 3
  have cr4 := kr.cell 4
  have cr5 := kr.cell 5
  have cr6 := kr.cell 6
  have cr7 := kr.cell 7
  clear kr
  go_wp2_with fail
  refine (HB1.out _).mono ?_
  rintro e w2 ⟨rfl, hb⟩
  have hB := HB.out.call hb
  have hB := hB.alloc 25 #[.int .i64 p, .int .i64 q]
  have hB := hB.alloc 25 #[.int .i64 p2, .int .i64 q2]
  clear hb HB
  have HB := Lib.hid hB
  clear hB
  clear cs0 cs1 cr0 cr1 cr2 cr3 cr4 cr5 cr6 cr7 HB1
  have HBx : Hid (SB w 2 ([(w2.heap.size + 1, 25, #[.int .i64 p2, .int .i64 q2]), (w2.heap.size, 25, #[.int .i64 p, .int .i64 q]), (w.heap.size + 1, 25, #[.int .i64 b, .int .i64 d]), (w.heap.size, 42, #[.int .i64 r1, .int .i64 c1, .bool x1, .bool y1, .int .i64 r2, .int .i64 c2, .bool x2, .bool y2])] : List (Nat × TypeId × Array Value)) ((w2.alloc (.cells #[.int .i64 p, .int .i64 q] 25)).alloc (.cells #[.int .i64 p2, .int .i64 q2] 25))) := Lib.hid (by simpa using HB.out)
  clear HB
  have HB := HBx
  clear HBx
  go_wp2_with fail
  refine wp_region_parts (S := S22 w 2 ([(w2.heap.size + 1, 25, #[.int .i64 p2, .int .i64 q2]), (w2.heap.size, 25, #[.int .i64 p, .int .i64 q]), (w.heap.size + 1, 25, #[.int .i64 b, .int .i64 d]), (w.heap.size, 42, #[.int .i64 r1, .int .i64 c1, .bool x1, .bool y1, .int .i64 r2, .int .i64 c2, .bool x2, .bool y2])] : List (Nat × TypeId × Array Value)) 34 #[.int .i64 0, .int .i64 0] #[.int .i64 p, .int .i64 q] 34 #[.int .i64 0, .int .i64 0] #[.int .i64 p2, .int .i64 q2]) (E := fun _ _ => True) [8, 9, 10, 11] [(2, Is (.pointer (some ⟨w.heap.size, 0, none⟩))), (3, Is (.pointer (some ⟨w.heap.size + 1, 0, none⟩))), (5, Is (.pointer (some ⟨w2.heap.size, 0, none⟩))), (6, Is (.pointer (some ⟨w2.heap.size + 1, 0, none⟩)))] [(21, Is (.agg #[.int .i64 r1, .int .i64 c1, .bool x1, .bool y1, .int .i64 r2, .int .i64 c2, .bool x2, .bool y2])), (22, Is (.agg #[.int .i64 r1, .int .i64 c1, .bool x1, .bool y1, .int .i64 r2, .int .i64 c2, .bool x2, .bool y2])), (23, Is (.agg #[.int .i64 b, .int .i64 d])), (24, Is (.agg #[.int .i64 b, .int .i64 d])), (25, Is (.tuple #[.agg #[.int .i64 p, .int .i64 q], .agg #[.int .i64 p2, .int .i64 q2]])), (20, Is (.tuple #[.agg #[.int .i64 p, .int .i64 q], .agg #[.int .i64 p2, .int .i64 q2]])), (26, Is (.agg #[.int .i64 p, .int .i64 q])), (27, Is (.agg #[.int .i64 p2, .int .i64 q2]))]
    [.op [2] none, .op [21] none, .op [3] none, .op [23] none, .op [22, 24] none, .op [25] none, .op [20] none, .op [20] none, .phase 0 [] [] [], .phase 1 [] [] [], .phase 2 [26] [(0, 7)] [1], .phase 3 [27] [(1, 8)] [2, 0]] (by as_aux_lemma => kernel_rfl) ?_ ?_ ?_ ?_ ?_ ⟨stable_is _ _, stable_is _ _, stable_is _ _, stable_is _ _, stable_is _ _, stable_is _ _, stable_is _ _, stable_is _ _, stable_is _ _, stable_is _ _, stable_is _ _, stable_is _ _, trivial⟩ ?_ (HB.out.drew) ?_ ?_
  · as_aux_lemma => kernel_rfl
  · as_aux_lemma => kernel_rfl
  · as_aux_lemma => kernel_rfl
  · as_aux_lemma => kernel_rfl
  · as_aux_lemma => kernel_rfl
  · exact ⟨rfl, rfl, rfl, rfl, trivial⟩
  · refine ⟨?_, ?_, ?_, ?_, ?_, ?_, ?_, ?_, ?_, ?_, ?_, ?_, trivial⟩
    · as_aux_lemma =>
        intro vals a W hS hL
        have e2 : a.tmps.getD 2 undef = .pointer (some ⟨w.heap.size, 0, none⟩) := hL.1
        clear hL
        have kb : Bk W (w.heap.size) 42 #[.int .i64 r1, .int .i64 c1, .bool x1, .bool y1, .int .i64 r2, .int .i64 c2, .bool x2, .bool y2] := hS.bk 3 rfl
        have f0 := kb.cell 0
        have f1 := kb.cell 1
        have f2 := kb.cell 2
        have f3 := kb.cell 3
        have f4 := kb.cell 4
        have f5 := kb.cell 5
        have f6 := kb.cell 6
        have f7 := kb.cell 7
        clear kb
        go_simp
        exact ⟨⟨fun d hd => by injection hd with hd; subst hd; rfl, fun h => by cases h⟩, hS, trivial⟩
    · as_aux_lemma =>
        intro vals a W hS hL
        have e21 : a.tmps.getD 21 undef = .agg #[.int .i64 r1, .int .i64 c1, .bool x1, .bool y1, .int .i64 r2, .int .i64 c2, .bool x2, .bool y2] := hL.1
        clear hL
        go_simp
        refine (H1.out W).mono ?_
        rintro e W' ⟨rfl, hb⟩
        exact ⟨_, rfl, ⟨fun d hd => by injection hd with hd; subst hd; rfl, fun h => by cases h⟩, hS.call hb, trivial⟩
    · as_aux_lemma =>
        intro vals a W hS hL
        have e3 : a.tmps.getD 3 undef = .pointer (some ⟨w.heap.size + 1, 0, none⟩) := hL.1
        clear hL
        have kb : Bk W (w.heap.size + 1) 25 #[.int .i64 b, .int .i64 d] := hS.bk 2 rfl
        have f0 := kb.cell 0
        have f1 := kb.cell 1
        clear kb
        go_simp
        exact ⟨⟨fun d hd => by injection hd with hd; subst hd; rfl, fun h => by cases h⟩, hS, trivial⟩
    · as_aux_lemma =>
        intro vals a W hS hL
        have e23 : a.tmps.getD 23 undef = .agg #[.int .i64 b, .int .i64 d] := hL.1
        clear hL
        go_simp
        refine (H2.out W).mono ?_
        rintro e W' ⟨rfl, hb⟩
        exact ⟨_, rfl, ⟨fun d hd => by injection hd with hd; subst hd; rfl, fun h => by cases h⟩, hS.call hb, trivial⟩
    · as_aux_lemma =>
        intro vals a W hS hL
        have e22 : a.tmps.getD 22 undef = .agg #[.int .i64 r1, .int .i64 c1, .bool x1, .bool y1, .int .i64 r2, .int .i64 c2, .bool x2, .bool y2] := hL.1
        have e24 : a.tmps.getD 24 undef = .agg #[.int .i64 b, .int .i64 d] := hL.2.1
        clear hL
        go_simp
        refine (HB2.out W).mono ?_
        rintro e W' ⟨rfl, hb⟩
        exact ⟨_, rfl, ⟨fun d hd => by injection hd with hd; subst hd; rfl, fun h => by cases h⟩, hS.call hb, trivial⟩
    · as_aux_lemma =>
        intro vals a W hS hL
        have e25 : a.tmps.getD 25 undef = .tuple #[.agg #[.int .i64 p, .int .i64 q], .agg #[.int .i64 p2, .int .i64 q2]] := hL.1
        clear hL
        go_simp
        exact ⟨⟨fun d hd => by injection hd with hd; subst hd; rfl, fun h => by cases h⟩, hS, trivial⟩
    · as_aux_lemma =>
        intro vals a W hS hL
        have e20 : a.tmps.getD 20 undef = .tuple #[.agg #[.int .i64 p, .int .i64 q], .agg #[.int .i64 p2, .int .i64 q2]] := hL.1
        clear hL
        go_simp
        exact ⟨⟨fun d hd => by injection hd with hd; subst hd; rfl, fun h => by cases h⟩, hS, trivial⟩
    · as_aux_lemma =>
        intro vals a W hS hL
        have e20 : a.tmps.getD 20 undef = .tuple #[.agg #[.int .i64 p, .int .i64 q], .agg #[.int .i64 p2, .int .i64 q2]] := hL.1
        clear hL
        go_simp
        exact ⟨⟨fun d hd => by injection hd with hd; subst hd; rfl, fun h => by cases h⟩, hS, trivial⟩
    · as_aux_lemma =>
        intro a W vals hv hn hS hL hp hd
        clear hL
        go_simp
        exact ⟨hS.new0 hv hn, trivial, trivial⟩
    · as_aux_lemma =>
        intro a W vals hv hn hS hL hp hd
        clear hL
        go_simp
        exact ⟨hS.new1 hv hn, trivial, trivial⟩
    · as_aux_lemma =>
        intro a W vals hv hn hS hL hp hd
        have e26 : a.tmps.getD 26 undef = .agg #[.int .i64 p, .int .i64 q] := hL.1
        clear hL
        obtain ⟨g, hg, kz, hnx⟩ := hS.at2 hv hn hp.1 hd.1
        rw [Array.getD_eq_getD_getElem?] at hg e26
        have z0 := kz.frozen 0
        have z1 := kz.frozen 1
        have q0 := kz.cell 0
        have q1 := kz.cell 1
        clear kz hS
        go_simp
        exact ⟨hnx _, trivial, trivial⟩
    · as_aux_lemma =>
        intro a W vals hv hn hS hL hp hd
        have e27 : a.tmps.getD 27 undef = .agg #[.int .i64 p2, .int .i64 q2] := hL.1
        clear hL
        obtain ⟨g, hg, kz, hnx⟩ := hS.at3 hv hn hp.1 hd.1 hd.2.1
        rw [Array.getD_eq_getD_getElem?] at hg e27
        have z0 := kz.frozen 0
        have z1 := kz.frozen 1
        have q0 := kz.cell 0
        have q1 := kz.cell 1
        clear kz hS
        go_simp
        exact ⟨hnx _, trivial, trivial⟩
  · intro a W' vals hd hsz hT hF hv hall hP hS
    obtain ⟨g0, g1, hv0, hv1, hg0, hg1, hg01, hn0, hn1, hB⟩ := hS.fin hv hall
    simp only [List.mem_cons, List.not_mem_nil, or_false, forall_eq_or_imp, forall_eq] at hn0
    have e7 : a.tmps.getD 7 undef = .pointer (some ⟨g0, 0, none⟩) := (hP 0 8 _ 7 _ rfl rfl rfl hv0).symm
    simp only [List.mem_cons, List.not_mem_nil, or_false, forall_eq_or_imp, forall_eq] at hn1
    have e8 : a.tmps.getD 8 undef = .pointer (some ⟨g1, 0, none⟩) := (hP 1 9 _ 8 _ rfl rfl rfl hv1).symm
    have e2 : a.tmps.getD 2 undef = .pointer (some ⟨w.heap.size, 0, none⟩) := hT 2 (by simp)
    have e3 : a.tmps.getD 3 undef = .pointer (some ⟨w.heap.size + 1, 0, none⟩) := hT 3 (by simp)
    have e5 : a.tmps.getD 5 undef = .pointer (some ⟨w2.heap.size, 0, none⟩) := hT 5 (by simp)
    have e6 : a.tmps.getD 6 undef = .pointer (some ⟨w2.heap.size + 1, 0, none⟩) := hT 6 (by simp)
    clear hT hF hP hS hall hv0 hv1
    rw [act_lit 75 a hd hsz]
    simp only [List.range, List.range.loop, List.map, e2, e3, e5, e6, e7, e8]
    clear hd hsz e2 e3 e5 e6 e7 e8
    have HB3 := Lib.hid hB
    clear HB hB HB2
    go_wp2_with fail
    refine wp_region_phases (S := (fun vals W => SX w 2 ([] : List Stp) vals ([(g1, 34, #[.int .i64 p2, .int .i64 q2]), (g0, 34, #[.int .i64 p, .int .i64 q]), (w2.heap.size + 1, 25, #[.int .i64 p2, .int .i64 q2]), (w2.heap.size, 25, #[.int .i64 p, .int .i64 q]), (w.heap.size + 1, 25, #[.int .i64 b, .int .i64 d]), (w.heap.size, 42, #[.int .i64 r1, .int .i64 c1, .bool x1, .bool y1, .int .i64 r2, .int .i64 c2, .bool x2, .bool y2])] : List (Nat × TypeId × Array Value)) W)) (E := (fun _ _ => True)) [] [(2, Is (.pointer (some ⟨w.heap.size, 0, none⟩))), (3, Is (.pointer (some ⟨w.heap.size + 1, 0, none⟩))), (5, Is (.pointer (some ⟨w2.heap.size, 0, none⟩))), (6, Is (.pointer (some ⟨w2.heap.size + 1, 0, none⟩))), (7, Is (.pointer (some ⟨g0, 0, none⟩))), (8, Is (.pointer (some ⟨g1, 0, none⟩)))] [(28, Is (.agg #[.int .i64 p, .int .i64 q])), (29, Is (.agg #[.int .i64 p, .int .i64 q])), (30, Is (.agg #[.int .i64 p, .int .i64 q])), (31, Is (.bool false)), (32, Is (.bool false)), (33, Is (.agg #[.int .i64 p2, .int .i64 q2])), (34, Is (.agg #[.int .i64 p2, .int .i64 q2])), (35, Is (.agg #[.int .i64 p2, .int .i64 q2])), (36, Is (.bool false)), (37, Is (.bool false)), (38, Is (.bool false)), (39, Is (.agg #[.int .i64 r1, .int .i64 c1, .bool x1, .bool y1, .int .i64 r2, .int .i64 c2, .bool x2, .bool y2])), (40, Is (.int .i64 ka)), (41, Is (.agg #[.int .i64 r1, .int .i64 c1, .bool x1, .bool y1, .int .i64 r2, .int .i64 c2, .bool x2, .bool y2])), (42, Is (.agg #[.int .i64 r1, .int .i64 c1, .bool x1, .bool y1, .int .i64 r2, .int .i64 c2, .bool x2, .bool y2])), (43, Is (.int .i64 ka)), (44, Is (.bool false)), (45, Is (.bool false))]
      [.op [5] none, .op [28] none, .op [7] none, .op [29, 30] none, .op [31] none, .op [6, 32] (some (32, false)), .op [33, 32] (some (32, false)), .op [8, 32] (some (32, false)), .op [34, 35, 32] (some (32, false)), .op [32, 36] none, .op [37] none, .op [2, 38] (some (38, false)), .op [39, 38] (some (38, false)), .op [2, 38] (some (38, false)), .op [41, 38] (some (38, false)), .op [42, 38] (some (38, false)), .op [40, 43, 38] (some (38, false)), .op [38, 44] none] (by as_aux_lemma => kernel_rfl) ?_ ?_ ?_ ?_ ?_ ⟨stable_is _ _, stable_is _ _, stable_is _ _, stable_is _ _, stable_is _ _, stable_is _ _, stable_is _ _, stable_is _ _, stable_is _ _, stable_is _ _, stable_is _ _, stable_is _ _, stable_is _ _, stable_is _ _, stable_is _ _, stable_is _ _, stable_is _ _, stable_is _ _, stable_is _ _, stable_is _ _, stable_is _ _, stable_is _ _, stable_is _ _, stable_is _ _, trivial⟩ ?_ (HB3.out.drew) ?_ ?_
    · as_aux_lemma => kernel_rfl
    · as_aux_lemma => kernel_rfl
    · as_aux_lemma => kernel_rfl
    · as_aux_lemma => kernel_rfl
    · as_aux_lemma => kernel_rfl
    · exact ⟨rfl, rfl, rfl, rfl, rfl, rfl, trivial⟩
    · refine ⟨?_, ?_, ?_, ?_, ?_, ?_, ?_, ?_, ?_, ?_, ?_, ?_, ?_, ?_, ?_, ?_, ?_, ?_, trivial⟩
      · as_aux_lemma =>
          intro vals a W hS hL
          have e5 : a.tmps.getD 5 undef = .pointer (some ⟨w2.heap.size, 0, none⟩) := hL.1
          clear hL
          have kb : Bk W (w2.heap.size) 25 #[.int .i64 p, .int .i64 q] := hS.bk 3 rfl rfl
          have f0 := kb.cell 0
          have f1 := kb.cell 1
          clear kb
          go_simp
          exact ⟨⟨fun d hd => by injection hd with hd; subst hd; rfl, fun h => by cases h⟩, hS, trivial⟩
      · as_aux_lemma =>
          intro vals a W hS hL
          have e28 : a.tmps.getD 28 undef = .agg #[.int .i64 p, .int .i64 q] := hL.1
          clear hL
          go_simp
          refine (H3.out W).mono ?_
          rintro e W' ⟨rfl, hb⟩
          exact ⟨_, rfl, ⟨fun d hd => by injection hd with hd; subst hd; rfl, fun h => by cases h⟩, hS.call hb, trivial⟩
      · as_aux_lemma =>
          intro vals a W hS hL
          have e7 : a.tmps.getD 7 undef = .pointer (some ⟨g0, 0, none⟩) := hL.1
          clear hL
          have kb : Bk W (g0) 34 #[.int .i64 p, .int .i64 q] := hS.bk 1 rfl rfl
          have f0 := kb.cell 0
          have f1 := kb.cell 1
          clear kb
          go_simp
          exact ⟨⟨fun d hd => by injection hd with hd; subst hd; rfl, fun h => by cases h⟩, hS, trivial⟩
      · as_aux_lemma =>
          intro vals a W hS hL
          have e29 : a.tmps.getD 29 undef = .agg #[.int .i64 p, .int .i64 q] := hL.1
          have e30 : a.tmps.getD 30 undef = .agg #[.int .i64 p, .int .i64 q] := hL.2.1
          clear hL
          go_simp
          exact ⟨⟨fun d hd => by injection hd with hd; subst hd; rfl, fun h => by cases h⟩, hS, trivial⟩
      · as_aux_lemma =>
          intro vals a W hS hL
          have e31 : a.tmps.getD 31 undef = .bool false := hL.1
          clear hL
          go_simp
          exact ⟨⟨fun d hd => by injection hd with hd; subst hd; rfl, fun h => by cases h⟩, hS, trivial⟩
      · as_aux_lemma =>
          intro vals a W hS hL
          have e6 : a.tmps.getD 6 undef = .pointer (some ⟨w2.heap.size + 1, 0, none⟩) := hL.1
          have e32 : a.tmps.getD 32 undef = .bool false := hL.2.1
          clear hL
          refine ⟨false, e32, ?_⟩
          rw [if_pos rfl]
          have kb : Bk W (w2.heap.size + 1) 25 #[.int .i64 p2, .int .i64 q2] := hS.bk 2 rfl rfl
          have f0 := kb.cell 0
          have f1 := kb.cell 1
          clear kb
          go_simp
          exact ⟨⟨fun d hd => by injection hd with hd; subst hd; rfl, fun h => by cases h⟩, hS, trivial⟩
      · as_aux_lemma =>
          intro vals a W hS hL
          have e33 : a.tmps.getD 33 undef = .agg #[.int .i64 p2, .int .i64 q2] := hL.1
          have e32 : a.tmps.getD 32 undef = .bool false := hL.2.1
          clear hL
          refine ⟨false, e32, ?_⟩
          rw [if_pos rfl]
          go_simp
          refine (H4.out W).mono ?_
          rintro e W' ⟨rfl, hb⟩
          exact ⟨_, rfl, ⟨fun d hd => by injection hd with hd; subst hd; rfl, fun h => by cases h⟩, hS.call hb, trivial⟩
      · as_aux_lemma =>
          intro vals a W hS hL
          have e8 : a.tmps.getD 8 undef = .pointer (some ⟨g1, 0, none⟩) := hL.1
          have e32 : a.tmps.getD 32 undef = .bool false := hL.2.1
          clear hL
          refine ⟨false, e32, ?_⟩
          rw [if_pos rfl]
          have kb : Bk W (g1) 34 #[.int .i64 p2, .int .i64 q2] := hS.bk 0 rfl rfl
          have f0 := kb.cell 0
          have f1 := kb.cell 1
          clear kb
          go_simp
          exact ⟨⟨fun d hd => by injection hd with hd; subst hd; rfl, fun h => by cases h⟩, hS, trivial⟩
      · as_aux_lemma =>
          intro vals a W hS hL
          have e34 : a.tmps.getD 34 undef = .agg #[.int .i64 p2, .int .i64 q2] := hL.1
          have e35 : a.tmps.getD 35 undef = .agg #[.int .i64 p2, .int .i64 q2] := hL.2.1
          have e32 : a.tmps.getD 32 undef = .bool false := hL.2.2.1
          clear hL
          refine ⟨false, e32, ?_⟩
          rw [if_pos rfl]
          go_simp
          exact ⟨⟨fun d hd => by injection hd with hd; subst hd; rfl, fun h => by cases h⟩, hS, trivial⟩
      · as_aux_lemma =>
          intro vals a W hS hL
          have e32 : a.tmps.getD 32 undef = .bool false := hL.1
          have e36 : a.tmps.getD 36 undef = .bool false := hL.2.1
          clear hL
          go_simp
          exact ⟨⟨fun d hd => by injection hd with hd; subst hd; rfl, fun h => by cases h⟩, hS, trivial⟩
      · as_aux_lemma =>
          intro vals a W hS hL
          have e37 : a.tmps.getD 37 undef = .bool false := hL.1
          clear hL
          go_simp
          exact ⟨⟨fun d hd => by injection hd with hd; subst hd; rfl, fun h => by cases h⟩, hS, trivial⟩
      · as_aux_lemma =>
          intro vals a W hS hL
          have e2 : a.tmps.getD 2 undef = .pointer (some ⟨w.heap.size, 0, none⟩) := hL.1
          have e38 : a.tmps.getD 38 undef = .bool false := hL.2.1
          clear hL
          refine ⟨false, e38, ?_⟩
          rw [if_pos rfl]
          have kb : Bk W (w.heap.size) 42 #[.int .i64 r1, .int .i64 c1, .bool x1, .bool y1, .int .i64 r2, .int .i64 c2, .bool x2, .bool y2] := hS.bk 5 rfl rfl
          have f0 := kb.cell 0
          have f1 := kb.cell 1
          have f2 := kb.cell 2
          have f3 := kb.cell 3
          have f4 := kb.cell 4
          have f5 := kb.cell 5
          have f6 := kb.cell 6
          have f7 := kb.cell 7
          clear kb
          go_simp
          exact ⟨⟨fun d hd => by injection hd with hd; subst hd; rfl, fun h => by cases h⟩, hS, trivial⟩
      · as_aux_lemma =>
          intro vals a W hS hL
          have e39 : a.tmps.getD 39 undef = .agg #[.int .i64 r1, .int .i64 c1, .bool x1, .bool y1, .int .i64 r2, .int .i64 c2, .bool x2, .bool y2] := hL.1
          have e38 : a.tmps.getD 38 undef = .bool false := hL.2.1
          clear hL
          refine ⟨false, e38, ?_⟩
          rw [if_pos rfl]
          go_simp
          refine (H5.out W).mono ?_
          rintro e W' ⟨rfl, hb⟩
          exact ⟨_, rfl, ⟨fun d hd => by injection hd with hd; subst hd; rfl, fun h => by cases h⟩, hS.call hb, trivial⟩
      · as_aux_lemma =>
          intro vals a W hS hL
          have e2 : a.tmps.getD 2 undef = .pointer (some ⟨w.heap.size, 0, none⟩) := hL.1
          have e38 : a.tmps.getD 38 undef = .bool false := hL.2.1
          clear hL
          refine ⟨false, e38, ?_⟩
          rw [if_pos rfl]
          have kb : Bk W (w.heap.size) 42 #[.int .i64 r1, .int .i64 c1, .bool x1, .bool y1, .int .i64 r2, .int .i64 c2, .bool x2, .bool y2] := hS.bk 5 rfl rfl
          have f0 := kb.cell 0
          have f1 := kb.cell 1
          have f2 := kb.cell 2
          have f3 := kb.cell 3
          have f4 := kb.cell 4
          have f5 := kb.cell 5
          have f6 := kb.cell 6
          have f7 := kb.cell 7
          clear kb
          go_simp
          exact ⟨⟨fun d hd => by injection hd with hd; subst hd; rfl, fun h => by cases h⟩, hS, trivial⟩
      · as_aux_lemma =>
          intro vals a W hS hL
          have e41 : a.tmps.getD 41 undef = .agg #[.int .i64 r1, .int .i64 c1, .bool x1, .bool y1, .int .i64 r2, .int .i64 c2, .bool x2, .bool y2] := hL.1
          have e38 : a.tmps.getD 38 undef = .bool false := hL.2.1
          clear hL
          refine ⟨false, e38, ?_⟩
          rw [if_pos rfl]
          go_simp
          refine (H1.out W).mono ?_
          rintro e W' ⟨rfl, hb⟩
          exact ⟨_, rfl, ⟨fun d hd => by injection hd with hd; subst hd; rfl, fun h => by cases h⟩, hS.call hb, trivial⟩
      · as_aux_lemma =>
          intro vals a W hS hL
          have e42 : a.tmps.getD 42 undef = .agg #[.int .i64 r1, .int .i64 c1, .bool x1, .bool y1, .int .i64 r2, .int .i64 c2, .bool x2, .bool y2] := hL.1
          have e38 : a.tmps.getD 38 undef = .bool false := hL.2.1
          clear hL
          refine ⟨false, e38, ?_⟩
          rw [if_pos rfl]
          go_simp
          refine (H6.out W).mono ?_
          rintro e W' ⟨rfl, hb⟩
          exact ⟨_, rfl, ⟨fun d hd => by injection hd with hd; subst hd; rfl, fun h => by cases h⟩, hS.call hb, trivial⟩
      · as_aux_lemma =>
          intro vals a W hS hL
          have e40 : a.tmps.getD 40 undef = .int .i64 ka := hL.1
          have e43 : a.tmps.getD 43 undef = .int .i64 ka := hL.2.1
          have e38 : a.tmps.getD 38 undef = .bool false := hL.2.2.1
          clear hL
          refine ⟨false, e38, ?_⟩
          rw [if_pos rfl]
          go_simp
          exact ⟨⟨fun d hd => by injection hd with hd; subst hd; rfl, fun h => by cases h⟩, hS, trivial⟩
      · as_aux_lemma =>
          intro vals a W hS hL
          have e38 : a.tmps.getD 38 undef = .bool false := hL.1
          have e44 : a.tmps.getD 44 undef = .bool false := hL.2.1
          clear hL
          go_simp
          exact ⟨⟨fun d hd => by injection hd with hd; subst hd; rfl, fun h => by cases h⟩, hS, trivial⟩
    · intro a W' vals hd hsz hT hF hv hP hS
      obtain rfl : vals = [] := List.eq_nil_of_length_eq_zero hv
      have hS2 : SX w 2 ([] : List Stp) [] ([(g1, 34, #[.int .i64 p2, .int .i64 q2]), (g0, 34, #[.int .i64 p, .int .i64 q]), (w2.heap.size + 1, 25, #[.int .i64 p2, .int .i64 q2]), (w2.heap.size, 25, #[.int .i64 p, .int .i64 q]), (w.heap.size + 1, 25, #[.int .i64 b, .int .i64 d]), (w.heap.size, 42, #[.int .i64 r1, .int .i64 c1, .bool x1, .bool y1, .int .i64 r2, .int .i64 c2, .bool x2, .bool y2])] : List (Nat × TypeId × Array Value)) W' := hS
      clear hS
      have hB0 := hS2
      have hB : SB w 2 ([(g1, 34, #[.int .i64 p2, .int .i64 q2]), (g0, 34, #[.int .i64 p, .int .i64 q]), (w2.heap.size + 1, 25, #[.int .i64 p2, .int .i64 q2]), (w2.heap.size, 25, #[.int .i64 p, .int .i64 q]), (w.heap.size + 1, 25, #[.int .i64 b, .int .i64 d]), (w.heap.size, 42, #[.int .i64 r1, .int .i64 c1, .bool x1, .bool y1, .int .i64 r2, .int .i64 c2, .bool x2, .bool y2])] : List (Nat × TypeId × Array Value)) W' := hB0
      clear hB0
      have e2 : a.tmps.getD 2 undef = .pointer (some ⟨w.heap.size, 0, none⟩) := hT 2 (by simp)
      have e3 : a.tmps.getD 3 undef = .pointer (some ⟨w.heap.size + 1, 0, none⟩) := hT 3 (by simp)
      have e5 : a.tmps.getD 5 undef = .pointer (some ⟨w2.heap.size, 0, none⟩) := hT 5 (by simp)
      have e6 : a.tmps.getD 6 undef = .pointer (some ⟨w2.heap.size + 1, 0, none⟩) := hT 6 (by simp)
      have e7 : a.tmps.getD 7 undef = .pointer (some ⟨g0, 0, none⟩) := hT 7 (by simp)
      have e8 : a.tmps.getD 8 undef = .pointer (some ⟨g1, 0, none⟩) := hT 8 (by simp)
      have e45 : a.tmps.getD 45 undef = .bool false := hT 45 (by simp)
      clear hT hF hP
      rw [act_lit 75 a hd hsz]
      simp only [List.range, List.range.loop, List.map, e2, e3, e5, e6, e7, e8, e45]
      clear hd hsz e2 e3 e5 e6 e7 e8 e45
      have HB4 := Lib.hid hB
      clear HB3 hB H3 H4 H5 H6
      go_wp2_with fail
      refine wp_region_phases (S := (fun _ W => SB w 2 ([(g1, 34, #[.int .i64 p2, .int .i64 q2]), (g0, 34, #[.int .i64 p, .int .i64 q]), (w2.heap.size + 1, 25, #[.int .i64 p2, .int .i64 q2]), (w2.heap.size, 25, #[.int .i64 p, .int .i64 q]), (w.heap.size + 1, 25, #[.int .i64 b, .int .i64 d]), (w.heap.size, 42, #[.int .i64 r1, .int .i64 c1, .bool x1, .bool y1, .int .i64 r2, .int .i64 c2, .bool x2, .bool y2])] : List (Nat × TypeId × Array Value)) W)) (E := (fun W W' => Below W.heap.size W W')) [] [(2, Is (.pointer (some ⟨w.heap.size, 0, none⟩))), (3, Is (.pointer (some ⟨w.heap.size + 1, 0, none⟩))), (5, Is (.pointer (some ⟨w2.heap.size, 0, none⟩))), (6, Is (.pointer (some ⟨w2.heap.size + 1, 0, none⟩))), (7, Is (.pointer (some ⟨g0, 0, none⟩))), (8, Is (.pointer (some ⟨g1, 0, none⟩)))] [(46, Is (.agg #[.int .i64 r1, .int .i64 c1, .bool x1, .bool y1, .int .i64 r2, .int .i64 c2, .bool x2, .bool y2])), (47, Is (.agg #[.int .i64 b, .int .i64 d])), (48, RowC n xs), (49, Is (.agg #[.int .i64 r1, .int .i64 c1, .bool x1, .bool y1, .int .i64 r2, .int .i64 c2, .bool x2, .bool y2])), (50, Is (.agg #[.int .i64 r1, .int .i64 c1, .bool x1, .bool y1, .int .i64 r2, .int .i64 c2, .bool x2, .bool y2])), (51, Is (.agg #[.int .i64 b, .int .i64 d])), (52, Is (.agg #[.int .i64 b, .int .i64 d])), (53, RowC n xs), (9, RowC n xs), (10, RowC n xs)]
        [.op [2] none, .op [3] none, .op [46, 47] none, .op [2] none, .op [49] none, .op [3] none, .op [51] none, .op [50, 52] none, .op [48] none, .op [53] none] (by as_aux_lemma => kernel_rfl) ?_ ?_ ?_ ?_ ?_ ⟨stable_is _ _, stable_is _ _, stable_is _ _, stable_is _ _, stable_is _ _, stable_is _ _, stable_is _ _, stable_is _ _, (fun _ _ _ hb h => row_stable hb h), stable_is _ _, stable_is _ _, stable_is _ _, stable_is _ _, (fun _ _ _ hb h => row_stable hb h), (fun _ _ _ hb h => row_stable hb h), (fun _ _ _ hb h => row_stable hb h), trivial⟩ ?_ HB4.out.drew ?_ ?_
      · as_aux_lemma => kernel_rfl
      · as_aux_lemma => kernel_rfl
      · as_aux_lemma => kernel_rfl
      · as_aux_lemma => kernel_rfl
      · as_aux_lemma => kernel_rfl
      · exact ⟨rfl, rfl, rfl, rfl, rfl, rfl, trivial⟩
      · refine ⟨?_, ?_, ?_, ?_, ?_, ?_, ?_, ?_, ?_, ?_, trivial⟩
        · as_aux_lemma =>
            intro vals a W hS hL
            have e2 : a.tmps.getD 2 undef = .pointer (some ⟨w.heap.size, 0, none⟩) := hL.1
            clear hL
            have kb : Bk W (w.heap.size) 42 #[.int .i64 r1, .int .i64 c1, .bool x1, .bool y1, .int .i64 r2, .int .i64 c2, .bool x2, .bool y2] := hS.box (i := 5) rfl
            have f0 := kb.cell 0
            have f1 := kb.cell 1
            have f2 := kb.cell 2
            have f3 := kb.cell 3
            have f4 := kb.cell 4
            have f5 := kb.cell 5
            have f6 := kb.cell 6
            have f7 := kb.cell 7
            clear kb
            go_simp
            exact ⟨⟨fun d hd => by injection hd with hd; subst hd; rfl, fun h => by cases h⟩, hS, Below.refl _ _⟩
        · as_aux_lemma =>
            intro vals a W hS hL
            have e3 : a.tmps.getD 3 undef = .pointer (some ⟨w.heap.size + 1, 0, none⟩) := hL.1
            clear hL
            have kb : Bk W (w.heap.size + 1) 25 #[.int .i64 b, .int .i64 d] := hS.box (i := 4) rfl
            have f0 := kb.cell 0
            have f1 := kb.cell 1
            clear kb
            go_simp
            exact ⟨⟨fun d hd => by injection hd with hd; subst hd; rfl, fun h => by cases h⟩, hS, Below.refl _ _⟩
        · as_aux_lemma =>
            intro vals a W hS hL
            have e46 : a.tmps.getD 46 undef = .agg #[.int .i64 r1, .int .i64 c1, .bool x1, .bool y1, .int .i64 r2, .int .i64 c2, .bool x2, .bool y2] := hL.1
            have e47 : a.tmps.getD 47 undef = .agg #[.int .i64 b, .int .i64 d] := hL.2.1
            clear hL
            go_simp
            refine (HC1.out W).mono ?_
            rintro e W' ⟨⟨v, rfl, ho⟩, hb⟩
            exact ⟨_, rfl, ⟨fun d hd => by injection hd with hd; subst hd; exact row_of ho, fun h => by cases h⟩, hS.call hb, hb⟩
        · as_aux_lemma =>
            intro vals a W hS hL
            have e2 : a.tmps.getD 2 undef = .pointer (some ⟨w.heap.size, 0, none⟩) := hL.1
            clear hL
            have kb : Bk W (w.heap.size) 42 #[.int .i64 r1, .int .i64 c1, .bool x1, .bool y1, .int .i64 r2, .int .i64 c2, .bool x2, .bool y2] := hS.box (i := 5) rfl
            have f0 := kb.cell 0
            have f1 := kb.cell 1
            have f2 := kb.cell 2
            have f3 := kb.cell 3
            have f4 := kb.cell 4
            have f5 := kb.cell 5
            have f6 := kb.cell 6
            have f7 := kb.cell 7
            clear kb
            go_simp
            exact ⟨⟨fun d hd => by injection hd with hd; subst hd; rfl, fun h => by cases h⟩, hS, Below.refl _ _⟩
        · as_aux_lemma =>
            intro vals a W hS hL
            have e49 : a.tmps.getD 49 undef = .agg #[.int .i64 r1, .int .i64 c1, .bool x1, .bool y1, .int .i64 r2, .int .i64 c2, .bool x2, .bool y2] := hL.1
            clear hL
            go_simp
            refine (H1.out W).mono ?_
            rintro e W' ⟨rfl, hb⟩
            exact ⟨_, rfl, ⟨fun d hd => by injection hd with hd; subst hd; rfl, fun h => by cases h⟩, hS.call hb, hb⟩
        · as_aux_lemma =>
            intro vals a W hS hL
            have e3 : a.tmps.getD 3 undef = .pointer (some ⟨w.heap.size + 1, 0, none⟩) := hL.1
            clear hL
            have kb : Bk W (w.heap.size + 1) 25 #[.int .i64 b, .int .i64 d] := hS.box (i := 4) rfl
            have f0 := kb.cell 0
            have f1 := kb.cell 1
            clear kb
            go_simp
            exact ⟨⟨fun d hd => by injection hd with hd; subst hd; rfl, fun h => by cases h⟩, hS, Below.refl _ _⟩
        · as_aux_lemma =>
            intro vals a W hS hL
            have e51 : a.tmps.getD 51 undef = .agg #[.int .i64 b, .int .i64 d] := hL.1
            clear hL
            go_simp
            refine (H2.out W).mono ?_
            rintro e W' ⟨rfl, hb⟩
            exact ⟨_, rfl, ⟨fun d hd => by injection hd with hd; subst hd; rfl, fun h => by cases h⟩, hS.call hb, hb⟩
        · as_aux_lemma =>
            intro vals a W hS hL
            have e50 : a.tmps.getD 50 undef = .agg #[.int .i64 r1, .int .i64 c1, .bool x1, .bool y1, .int .i64 r2, .int .i64 c2, .bool x2, .bool y2] := hL.1
            have e52 : a.tmps.getD 52 undef = .agg #[.int .i64 b, .int .i64 d] := hL.2.1
            clear hL
            go_simp
            refine (HC2.out W).mono ?_
            rintro e W' ⟨⟨v, rfl, ho⟩, hb⟩
            exact ⟨_, rfl, ⟨fun d hd => by injection hd with hd; subst hd; exact row_of ho, fun h => by cases h⟩, hS.call hb, hb⟩
        · as_aux_lemma =>
            intro vals a W hS hL
            have e48 := hL.1
            clear hL
            obtain ⟨A0, cc, hv, hnc, hr⟩ : RowC n xs (a.tmps.getD 48 undef) W := e48
            rw [Array.getD_eq_getD_getElem?] at hv
            go_simp
            exact ⟨⟨fun d hd => by injection hd with hd; subst hd; exact ⟨A0, cc, rfl, hnc, hr⟩, fun h => by cases h⟩, hS, Below.refl _ _⟩
        · as_aux_lemma =>
            intro vals a W hS hL
            have e53 := hL.1
            clear hL
            obtain ⟨A0, cc, hv, hnc, hr⟩ : RowC n xs (a.tmps.getD 53 undef) W := e53
            rw [Array.getD_eq_getD_getElem?] at hv
            go_simp
            exact ⟨⟨fun d hd => by injection hd with hd; subst hd; exact ⟨A0, cc, rfl, hnc, hr⟩, fun h => by cases h⟩, hS, Below.refl _ _⟩
      · intro a W' vals hd hsz hT hF hv hP hS
        have hB : SB w 2 ([(g1, 34, #[.int .i64 p2, .int .i64 q2]), (g0, 34, #[.int .i64 p, .int .i64 q]), (w2.heap.size + 1, 25, #[.int .i64 p2, .int .i64 q2]), (w2.heap.size, 25, #[.int .i64 p, .int .i64 q]), (w.heap.size + 1, 25, #[.int .i64 b, .int .i64 d]), (w.heap.size, 42, #[.int .i64 r1, .int .i64 c1, .bool x1, .bool y1, .int .i64 r2, .int .i64 c2, .bool x2, .bool y2])] : List (Nat × TypeId × Array Value)) W' := hS
        obtain ⟨A9, k9, e9, hk9, hr9⟩ : RowC n xs (a.tmps.getD 9 undef) W' := hT 9 (by simp)
        obtain ⟨A10, k10, e10, hk10, hr10⟩ : RowC n xs (a.tmps.getD 10 undef) W' := hT 10 (by simp)
        have e2 : a.tmps.getD 2 undef = .pointer (some ⟨w.heap.size, 0, none⟩) := hT 2 (by simp)
        have e3 : a.tmps.getD 3 undef = .pointer (some ⟨w.heap.size + 1, 0, none⟩) := hT 3 (by simp)
        have e5 : a.tmps.getD 5 undef = .pointer (some ⟨w2.heap.size, 0, none⟩) := hT 5 (by simp)
        have e6 : a.tmps.getD 6 undef = .pointer (some ⟨w2.heap.size + 1, 0, none⟩) := hT 6 (by simp)
        have e7 : a.tmps.getD 7 undef = .pointer (some ⟨g0, 0, none⟩) := hT 7 (by simp)
        have e8 : a.tmps.getD 8 undef = .pointer (some ⟨g1, 0, none⟩) := hT 8 (by simp)
        clear hT hF hP hS hv
        rw [act_lit 75 a hd hsz]
        simp only [List.range, List.range.loop, List.map, e2, e3, e5, e6, e7, e8, e9, e10]
        clear hd hsz e2 e3 e5 e6 e7 e8 e9 e10
        generalize a.tmps.getD 0 undef = y0
        generalize a.tmps.getD 1 undef = y1
        generalize a.tmps.getD 4 undef = y4
        generalize a.tmps.getD 11 undef = y11
        generalize a.tmps.getD 12 undef = y12
        generalize a.tmps.getD 13 undef = y13
        generalize a.tmps.getD 14 undef = y14
        generalize a.tmps.getD 15 undef = y15
        generalize a.tmps.getD 16 undef = y16
        generalize a.tmps.getD 17 undef = y17
        generalize a.tmps.getD 18 undef = y18
        generalize a.tmps.getD 19 undef = y19
        generalize a.tmps.getD 20 undef = y20
        generalize a.tmps.getD 21 undef = y21
        generalize a.tmps.getD 22 undef = y22
        generalize a.tmps.getD 23 undef = y23
        generalize a.tmps.getD 24 undef = y24
        generalize a.tmps.getD 25 undef = y25
        generalize a.tmps.getD 26 undef = y26
        generalize a.tmps.getD 27 undef = y27
        generalize a.tmps.getD 28 undef = y28
        generalize a.tmps.getD 29 undef = y29
        generalize a.tmps.getD 30 undef = y30
        generalize a.tmps.getD 31 undef = y31
        generalize a.tmps.getD 32 undef = y32
        generalize a.tmps.getD 33 undef = y33
        generalize a.tmps.getD 34 undef = y34
        generalize a.tmps.getD 35 undef = y35
        generalize a.tmps.getD 36 undef = y36
        generalize a.tmps.getD 37 undef = y37
        generalize a.tmps.getD 38 undef = y38
        generalize a.tmps.getD 39 undef = y39
        generalize a.tmps.getD 40 undef = y40
        generalize a.tmps.getD 41 undef = y41
        generalize a.tmps.getD 42 undef = y42
        generalize a.tmps.getD 43 undef = y43
        generalize a.tmps.getD 44 undef = y44
        generalize a.tmps.getD 45 undef = y45
        generalize a.tmps.getD 46 undef = y46
        generalize a.tmps.getD 47 undef = y47
        generalize a.tmps.getD 48 undef = y48
        generalize a.tmps.getD 49 undef = y49
        generalize a.tmps.getD 50 undef = y50
        generalize a.tmps.getD 51 undef = y51
        generalize a.tmps.getD 52 undef = y52
        generalize a.tmps.getD 53 undef = y53
        generalize a.tmps.getD 54 undef = y54
        generalize a.tmps.getD 55 undef = y55
        generalize a.tmps.getD 56 undef = y56
        generalize a.tmps.getD 57 undef = y57
        generalize a.tmps.getD 58 undef = y58
        generalize a.tmps.getD 59 undef = y59
        generalize a.tmps.getD 60 undef = y60
        generalize a.tmps.getD 61 undef = y61
        generalize a.tmps.getD 62 undef = y62
        generalize a.tmps.getD 63 undef = y63
        generalize a.tmps.getD 64 undef = y64
        generalize a.tmps.getD 65 undef = y65
        generalize a.tmps.getD 66 undef = y66
        generalize a.tmps.getD 67 undef = y67
        generalize a.tmps.getD 68 undef = y68
        generalize a.tmps.getD 69 undef = y69
        generalize a.tmps.getD 70 undef = y70
        generalize a.tmps.getD 71 undef = y71
        generalize a.tmps.getD 72 undef = y72
        generalize a.tmps.getD 73 undef = y73
        generalize a.tmps.getD 74 undef = y74
        obtain ⟨ga, rfl, hga, hra⟩ := hr9 hnp
        obtain ⟨gb, rfl, hgb, hrb⟩ := hr10 hnp
        have HLS := Lib.hid (show LS w ga gb xs W' from ⟨hB.bel, hga, hgb, hra, hrb⟩)
        clear hB HB4 hr9 hr10 H1 H2 HC1 HC2 hga hgb hra hrb
        go_wp2
        go_loopw [11] (fun i wr => ∃ j : Nat, i = .int .i64 j ∧ j ≤ n ∧ LS w ga gb xs wr) (fun i _ => n - (Go.RowKit.intOf i).toNat)
        case atStart => exact ⟨0, by first | rfl | trivial, by omega, HLS.out⟩
        case round =>
          obtain ⟨j, rfl, hj, hls⟩ := hrel
          by_cases hjn : j < n
          · have hjn' : (j : Int) < (n : Int) := by omega
            obtain ⟨R, C, hR, hC⟩ := HX.out j hjn
            have HRR := Lib.hid hR
            have HCC := Lib.hid hC
            have HO := Lib.hid (fun W : World => ofCell_any (w := W) R C)
            have HL2 := Lib.hid hls.drew
            clear hR hC hls HLS HX
            go_wp2_with fail
            refine wp_region_phases (S := (fun _ W => LS w ga gb xs W)) (E := (fun _ _ => True)) [] [(2, Is (.pointer (some ⟨w.heap.size, 0, none⟩))), (3, Is (.pointer (some ⟨w.heap.size + 1, 0, none⟩))), (5, Is (.pointer (some ⟨w2.heap.size, 0, none⟩))), (6, Is (.pointer (some ⟨w2.heap.size + 1, 0, none⟩))), (7, Is (.pointer (some ⟨g0, 0, none⟩))), (8, Is (.pointer (some ⟨g1, 0, none⟩))), (0, Is (y0)), (1, Is (y1)), (12, Is (y12)), (13, Is (y13)), (14, Is (y14)), (15, Is (y15)), (16, Is (y16)), (17, Is (y17)), (18, Is (y18)), (19, Is (y19)), (20, Is (y20)), (21, Is (y21)), (22, Is (y22)), (23, Is (y23)), (24, Is (y24)), (25, Is (y25)), (26, Is (y26)), (27, Is (y27)), (28, Is (y28)), (29, Is (y29)), (30, Is (y30)), (31, Is (y31)), (32, Is (y32)), (33, Is (y33)), (34, Is (y34)), (35, Is (y35)), (36, Is (y36)), (37, Is (y37)), (38, Is (y38)), (39, Is (y39)), (40, Is (y40)), (41, Is (y41)), (42, Is (y42)), (43, Is (y43)), (44, Is (y44)), (45, Is (y45)), (46, Is (y46)), (47, Is (y47)), (48, Is (y48)), (49, Is (y49)), (50, Is (y50)), (51, Is (y51)), (52, Is (y52)), (53, Is (y53)), (9, Is (.slice (some ⟨ga, 0, none⟩) n k9)), (10, Is (.slice (some ⟨gb, 0, none⟩) n k10)), (11, Is (.int .i64 j)), (54, Is (.slice (some ⟨ga, 0, none⟩) n k9)), (55, Is (.int .i64 (n : Nat))), (56, Is (.slice (some ⟨gb, 0, none⟩) n k10)), (57, Is (.int .i64 (n : Nat))), (58, Is (.bool false)), (59, Is (.int .i64 j)), (60, Is (.slice (some ⟨ga, 0, none⟩) n k9)), (61, Is (.int .i64 (n : Nat))), (62, Is (.bool true))] [(65, Is (.slice (some ⟨ga, 0, none⟩) n k9)), (66, Is (.int .i64 j)), (67, Is (.pointer (some ⟨ga, j * 2, none⟩))), (68, Is (.agg #[.int .i64 R, .int .i64 C])), (69, Is (.agg #[.int .i64 R, .int .i64 C])), (70, Is (.slice (some ⟨gb, 0, none⟩) n k10)), (71, Is (.int .i64 j)), (72, Is (.pointer (some ⟨gb, j * 2, none⟩))), (73, Is (.agg #[.int .i64 R, .int .i64 C])), (74, Is (.bool false))]
              [.op [9] none, .op [11] none, .op [65, 66] none, .op [67] none, .op [68] none, .op [10] none, .op [11] none, .op [70, 71] none, .op [72] none, .op [69, 73] none] (by as_aux_lemma => kernel_rfl) ?_ ?_ ?_ ?_ ?_ ⟨stable_is _ _, stable_is _ _, stable_is _ _, stable_is _ _, stable_is _ _, stable_is _ _, stable_is _ _, stable_is _ _, stable_is _ _, stable_is _ _, stable_is _ _, stable_is _ _, stable_is _ _, stable_is _ _, stable_is _ _, stable_is _ _, stable_is _ _, stable_is _ _, stable_is _ _, stable_is _ _, stable_is _ _, stable_is _ _, stable_is _ _, stable_is _ _, stable_is _ _, stable_is _ _, stable_is _ _, stable_is _ _, stable_is _ _, stable_is _ _, stable_is _ _, stable_is _ _, stable_is _ _, stable_is _ _, stable_is _ _, stable_is _ _, stable_is _ _, stable_is _ _, stable_is _ _, stable_is _ _, stable_is _ _, stable_is _ _, stable_is _ _, stable_is _ _, stable_is _ _, stable_is _ _, stable_is _ _, stable_is _ _, stable_is _ _, stable_is _ _, stable_is _ _, stable_is _ _, stable_is _ _, stable_is _ _, stable_is _ _, stable_is _ _, stable_is _ _, stable_is _ _, stable_is _ _, stable_is _ _, stable_is _ _, stable_is _ _, stable_is _ _, stable_is _ _, stable_is _ _, stable_is _ _, stable_is _ _, stable_is _ _, stable_is _ _, stable_is _ _, stable_is _ _, stable_is _ _, trivial⟩ ?_ HL2.out ?_ ?_
            · as_aux_lemma => kernel_rfl
            · as_aux_lemma => kernel_rfl
            · as_aux_lemma => kernel_rfl
            · as_aux_lemma => kernel_rfl
            · as_aux_lemma => kernel_rfl
            · exact ⟨rfl, rfl, rfl, rfl, rfl, rfl, rfl, rfl, rfl, rfl, rfl, rfl, rfl, rfl, rfl, rfl, rfl, rfl, rfl, rfl, rfl, rfl, rfl, rfl, rfl, rfl, rfl, rfl, rfl, rfl, rfl, rfl, rfl, rfl, rfl, rfl, rfl, rfl, rfl, rfl, rfl, rfl, rfl, rfl, rfl, rfl, rfl, rfl, rfl, rfl, rfl, rfl, rfl, rfl, rfl, rfl, rfl, rfl, rfl, rfl, rfl, rfl, trivial⟩
            · refine ⟨?_, ?_, ?_, ?_, ?_, ?_, ?_, ?_, ?_, ?_, trivial⟩
              · as_aux_lemma =>
                  intro vals a W hS hL
                  have e9 : a.tmps.getD 9 undef = .slice (some ⟨ga, 0, none⟩) n k9 := hL.1
                  clear hL
                  go_simp
                  exact ⟨⟨fun d hd => by injection hd with hd; subst hd; rfl, fun h => by cases h⟩, hS, trivial⟩
              · as_aux_lemma =>
                  intro vals a W hS hL
                  have e11 : a.tmps.getD 11 undef = .int .i64 j := hL.1
                  clear hL
                  go_simp
                  exact ⟨⟨fun d hd => by injection hd with hd; subst hd; rfl, fun h => by cases h⟩, hS, trivial⟩
              · as_aux_lemma =>
                  intro vals a W hS hL
                  have e65 : a.tmps.getD 65 undef = .slice (some ⟨ga, 0, none⟩) n k9 := hL.1
                  have e66 : a.tmps.getD 66 undef = .int .i64 j := hL.2.1
                  clear hL
                  go_simp
                  exact ⟨⟨fun d hd => by injection hd with hd; subst hd; rfl, fun h => by cases h⟩, hS, trivial⟩
              · as_aux_lemma =>
                  intro vals a W hS hL
                  have e67 : a.tmps.getD 67 undef = .pointer (some ⟨ga, j * 2, none⟩) := hL.1
                  clear hL
                  have f0 := hS.r (j * 2) _ HRR.out
                  have f1 := hS.r (j * 2 + 1) _ HCC.out
                  go_simp
                  exact ⟨⟨fun d hd => by injection hd with hd; subst hd; rfl, fun h => by cases h⟩, hS, trivial⟩
              · as_aux_lemma =>
                  intro vals a W hS hL
                  have e68 : a.tmps.getD 68 undef = .agg #[.int .i64 R, .int .i64 C] := hL.1
                  clear hL
                  go_simp
                  refine (HO.out W).mono ?_
                  rintro e W' ⟨rfl, hb⟩
                  exact ⟨_, rfl, ⟨fun d hd => by injection hd with hd; subst hd; rfl, fun h => by cases h⟩, hS.call hb, trivial⟩
              · as_aux_lemma =>
                  intro vals a W hS hL
                  have e10 : a.tmps.getD 10 undef = .slice (some ⟨gb, 0, none⟩) n k10 := hL.1
                  clear hL
                  go_simp
                  exact ⟨⟨fun d hd => by injection hd with hd; subst hd; rfl, fun h => by cases h⟩, hS, trivial⟩
              · as_aux_lemma =>
                  intro vals a W hS hL
                  have e11 : a.tmps.getD 11 undef = .int .i64 j := hL.1
                  clear hL
                  go_simp
                  exact ⟨⟨fun d hd => by injection hd with hd; subst hd; rfl, fun h => by cases h⟩, hS, trivial⟩
              · as_aux_lemma =>
                  intro vals a W hS hL
                  have e70 : a.tmps.getD 70 undef = .slice (some ⟨gb, 0, none⟩) n k10 := hL.1
                  have e71 : a.tmps.getD 71 undef = .int .i64 j := hL.2.1
                  clear hL
                  go_simp
                  exact ⟨⟨fun d hd => by injection hd with hd; subst hd; rfl, fun h => by cases h⟩, hS, trivial⟩
              · as_aux_lemma =>
                  intro vals a W hS hL
                  have e72 : a.tmps.getD 72 undef = .pointer (some ⟨gb, j * 2, none⟩) := hL.1
                  clear hL
                  have f0 := hS.r2 (j * 2) _ HRR.out
                  have f1 := hS.r2 (j * 2 + 1) _ HCC.out
                  go_simp
                  exact ⟨⟨fun d hd => by injection hd with hd; subst hd; rfl, fun h => by cases h⟩, hS, trivial⟩
              · as_aux_lemma =>
                  intro vals a W hS hL
                  have e69 : a.tmps.getD 69 undef = .agg #[.int .i64 R, .int .i64 C] := hL.1
                  have e73 : a.tmps.getD 73 undef = .agg #[.int .i64 R, .int .i64 C] := hL.2.1
                  clear hL
                  go_simp
                  exact ⟨⟨fun d hd => by injection hd with hd; subst hd; rfl, fun h => by cases h⟩, hS, trivial⟩
            · intro a W2 vals hd hsz hT hF hv hP hS
              have hLS2 : LS w ga gb xs W2 := hS
              have e0 : a.tmps.getD 0 undef = y0 := hT 0 (by simp)
              have e1 : a.tmps.getD 1 undef = y1 := hT 1 (by simp)
              have e2 : a.tmps.getD 2 undef = .pointer (some ⟨w.heap.size, 0, none⟩) := hT 2 (by simp)
              have e3 : a.tmps.getD 3 undef = .pointer (some ⟨w.heap.size + 1, 0, none⟩) := hT 3 (by simp)
              have e5 : a.tmps.getD 5 undef = .pointer (some ⟨w2.heap.size, 0, none⟩) := hT 5 (by simp)
              have e6 : a.tmps.getD 6 undef = .pointer (some ⟨w2.heap.size + 1, 0, none⟩) := hT 6 (by simp)
              have e7 : a.tmps.getD 7 undef = .pointer (some ⟨g0, 0, none⟩) := hT 7 (by simp)
              have e8 : a.tmps.getD 8 undef = .pointer (some ⟨g1, 0, none⟩) := hT 8 (by simp)
              have e9 : a.tmps.getD 9 undef = .slice (some ⟨ga, 0, none⟩) n k9 := hT 9 (by simp)
              have e10 : a.tmps.getD 10 undef = .slice (some ⟨gb, 0, none⟩) n k10 := hT 10 (by simp)
              have e11 : a.tmps.getD 11 undef = .int .i64 j := hT 11 (by simp)
              have e12 : a.tmps.getD 12 undef = y12 := hT 12 (by simp)
              have e13 : a.tmps.getD 13 undef = y13 := hT 13 (by simp)
              have e14 : a.tmps.getD 14 undef = y14 := hT 14 (by simp)
              have e15 : a.tmps.getD 15 undef = y15 := hT 15 (by simp)
              have e16 : a.tmps.getD 16 undef = y16 := hT 16 (by simp)
              have e17 : a.tmps.getD 17 undef = y17 := hT 17 (by simp)
              have e18 : a.tmps.getD 18 undef = y18 := hT 18 (by simp)
              have e19 : a.tmps.getD 19 undef = y19 := hT 19 (by simp)
              have e20 : a.tmps.getD 20 undef = y20 := hT 20 (by simp)
              have e21 : a.tmps.getD 21 undef = y21 := hT 21 (by simp)
              have e22 : a.tmps.getD 22 undef = y22 := hT 22 (by simp)
              have e23 : a.tmps.getD 23 undef = y23 := hT 23 (by simp)
              have e24 : a.tmps.getD 24 undef = y24 := hT 24 (by simp)
              have e25 : a.tmps.getD 25 undef = y25 := hT 25 (by simp)
              have e26 : a.tmps.getD 26 undef = y26 := hT 26 (by simp)
              have e27 : a.tmps.getD 27 undef = y27 := hT 27 (by simp)
              have e28 : a.tmps.getD 28 undef = y28 := hT 28 (by simp)
              have e29 : a.tmps.getD 29 undef = y29 := hT 29 (by simp)
              have e30 : a.tmps.getD 30 undef = y30 := hT 30 (by simp)
              have e31 : a.tmps.getD 31 undef = y31 := hT 31 (by simp)
              have e32 : a.tmps.getD 32 undef = y32 := hT 32 (by simp)
              have e33 : a.tmps.getD 33 undef = y33 := hT 33 (by simp)
              have e34 : a.tmps.getD 34 undef = y34 := hT 34 (by simp)
              have e35 : a.tmps.getD 35 undef = y35 := hT 35 (by simp)
              have e36 : a.tmps.getD 36 undef = y36 := hT 36 (by simp)
              have e37 : a.tmps.getD 37 undef = y37 := hT 37 (by simp)
              have e38 : a.tmps.getD 38 undef = y38 := hT 38 (by simp)
              have e39 : a.tmps.getD 39 undef = y39 := hT 39 (by simp)
              have e40 : a.tmps.getD 40 undef = y40 := hT 40 (by simp)
              have e41 : a.tmps.getD 41 undef = y41 := hT 41 (by simp)
              have e42 : a.tmps.getD 42 undef = y42 := hT 42 (by simp)
              have e43 : a.tmps.getD 43 undef = y43 := hT 43 (by simp)
              have e44 : a.tmps.getD 44 undef = y44 := hT 44 (by simp)
              have e45 : a.tmps.getD 45 undef = y45 := hT 45 (by simp)
              have e46 : a.tmps.getD 46 undef = y46 := hT 46 (by simp)
              have e47 : a.tmps.getD 47 undef = y47 := hT 47 (by simp)
              have e48 : a.tmps.getD 48 undef = y48 := hT 48 (by simp)
              have e49 : a.tmps.getD 49 undef = y49 := hT 49 (by simp)
              have e50 : a.tmps.getD 50 undef = y50 := hT 50 (by simp)
              have e51 : a.tmps.getD 51 undef = y51 := hT 51 (by simp)
              have e52 : a.tmps.getD 52 undef = y52 := hT 52 (by simp)
              have e53 : a.tmps.getD 53 undef = y53 := hT 53 (by simp)
              have e54 : a.tmps.getD 54 undef = .slice (some ⟨ga, 0, none⟩) n k9 := hT 54 (by simp)
              have e55 : a.tmps.getD 55 undef = .int .i64 (n : Nat) := hT 55 (by simp)
              have e56 : a.tmps.getD 56 undef = .slice (some ⟨gb, 0, none⟩) n k10 := hT 56 (by simp)
              have e57 : a.tmps.getD 57 undef = .int .i64 (n : Nat) := hT 57 (by simp)
              have e58 : a.tmps.getD 58 undef = .bool false := hT 58 (by simp)
              have e59 : a.tmps.getD 59 undef = .int .i64 j := hT 59 (by simp)
              have e60 : a.tmps.getD 60 undef = .slice (some ⟨ga, 0, none⟩) n k9 := hT 60 (by simp)
              have e61 : a.tmps.getD 61 undef = .int .i64 (n : Nat) := hT 61 (by simp)
              have e62 : a.tmps.getD 62 undef = .bool true := hT 62 (by simp)
              have e74 : a.tmps.getD 74 undef = .bool false := hT 74 (by simp)
              clear hT hF hP hS hv
              rw [act_lit 75 a hd hsz]
              simp only [List.range, List.range.loop, List.map, e0, e1, e2, e3, e5, e6, e7, e8, e9, e10, e11, e12, e13, e14, e15, e16, e17, e18, e19, e20, e21, e22, e23, e24, e25, e26, e27, e28, e29, e30, e31, e32, e33, e34, e35, e36, e37, e38, e39, e40, e41, e42, e43, e44, e45, e46, e47, e48, e49, e50, e51, e52, e53, e54, e55, e56, e57, e58, e59, e60, e61, e62, e74]
              clear hd hsz e0 e1 e2 e3 e5 e6 e7 e8 e9 e10 e11 e12 e13 e14 e15 e16 e17 e18 e19 e20 e21 e22 e23 e24 e25 e26 e27 e28 e29 e30 e31 e32 e33 e34 e35 e36 e37 e38 e39 e40 e41 e42 e43 e44 e45 e46 e47 e48 e49 e50 e51 e52 e53 e54 e55 e56 e57 e58 e59 e60 e61 e62 e74
              go_wp2
              go_roundw
              case rel => exact ⟨j + 1, by go_num, by omega, hLS2⟩
              case measure => simp [Go.RowKit.intOf]; omega
          · have hjn' : ¬ (j : Int) < (n : Int) := by omega
            have hbel := hls.bel
            clear HLS hls HX
            go_wp2
            go_ret
            exact ⟨rfl, hbel⟩

theorem refAreas_any {w : World} (HV : Tens w) (r1 c1 r2 c2 b d : Int) (x1 y1 x2 y2 : Bool) :
    Calls Tryd.prog 4 #[.agg #[.int .i64 r1, .int .i64 c1, .bool x1, .bool y1, .int .i64 r2, .int .i64 c2, .bool x2, .bool y2], .agg #[.int .i64 b, .int .i64 d]] w fun e w' => e = .returned (.bool true) ∧ Below w.heap.size w w' := by
  have H1 := Lib.hid (fun W : World => bounds_any (w := W) r1 c1 r2 c2 b d x1 y1 x2 y2)
  have H2 := Lib.hid (fun W : World => bBounds_any (w := W) r1 c1 r2 c2 b d x1 y1 x2 y2)
  have H3 := Lib.hid (fun W : World => cells_any (w := W) r1 c1 r2 c2 b d x1 y1 x2 y2)
  have H4 := Lib.hid (fun W : World => bCells_any (w := W) r1 c1 r2 c2 b d x1 y1 x2 y2)
  rw [boV_eq] at H1 H2
  have hn : ccN (rLo r1 r2 b x1 x2) (cLo c1 c2 d y1 y2) (rHi r1 r2 b x1 x2) (cHi c1 c2 d y1 y2) ≤ 4096 := by unfold ccN; split <;> omega
  generalize ccN (rLo r1 r2 b x1 x2) (cLo c1 c2 d y1 y2) (rHi r1 r2 b x1 x2) (cHi c1 c2 d y1 y2) = n at *
  unfold CellsAt at H3 H4
  rcases Nat.eq_zero_or_pos n with h0 | h0
  · subst h0
    exact areas_none HV _ _ _ _ _ _ _ _ _ _ H1 H2 H3 H4
  · exact areas_some HV _ _ _ _ _ _ _ _ _ _ H1 H2 H3 H4 hn h0 (Lib.hid (fun j hj => ⟨_, _, clL_get _ _ _ n j hj⟩))
end Go.Proofs.YtgjijjdpkmdcgaaDoor
