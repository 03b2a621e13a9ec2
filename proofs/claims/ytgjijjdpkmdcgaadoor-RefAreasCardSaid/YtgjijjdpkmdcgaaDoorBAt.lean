/- The reference's At, Rel, by their contracts. No condition. -/
import Derived.Test.YtgjijjdpkmdcgaaDoorAt
namespace Go.Proofs.YtgjijjdpkmdcgaaDoor
open Go.RowKit

theorem mod_s {w : World} (n m : Int) (hm : 0 < m) (hM : m ≤ 65536) :
    Calls Tryd.prog 34 #[.int .i64 n, .int .i64 m] w fun e w' => e = .returned (.int .i64 (n % m)) ∧ w' = w :=
  (mod_any n m hm hM).mono fun _ _ ⟨h1, h2⟩ => ⟨h1, h2.symm⟩
theorem quiet_b {P : Program} {f : FuncId} {args : Array Value} {w : World} {v : Value} (h : Calls P f args w fun e w' => e = .returned v ∧ w' = w) :
    Calls P f args w fun e w' => e = .returned v ∧ Below w.heap.size w w' := h.mono fun _ _ ⟨h1, h2⟩ => ⟨h1, h2 ▸ Below.refl _ _⟩
set_option maxRecDepth 20000 in
set_option maxHeartbeats 2000000 in
theorem bAt_True_True {w : World} (r c b d : Int) :
    Calls Tryd.prog 17 #[.agg #[.int .i64 r, .int .i64 c, .bool true, .bool true], .agg #[.int .i64 b, .int .i64 d]] w fun e w' => e = .returned (.agg #[.int .i64 (fo r b true 65536), .int .i64 (fo c d true 256)]) ∧ Below w.heap.size w w' := by
  obtain ⟨p, hp⟩ : ∃ p, r % 65536 = p := ⟨_, rfl⟩
  obtain ⟨q, hq⟩ : ∃ q, c % 256 = q := ⟨_, rfl⟩
  obtain ⟨s, hs⟩ : ∃ s, b % 65536 = s := ⟨_, rfl⟩
  obtain ⟨u, hu⟩ : ∃ u, d % 256 = u := ⟨_, rfl⟩
  obtain ⟨z1, hz1⟩ : ∃ z, (p + s) % 65536 = z := ⟨_, rfl⟩
  obtain ⟨z2, hz2⟩ : ∃ z, (q + u) % 256 = z := ⟨_, rfl⟩
  have bp := Int.emod_nonneg r (show (65536 : Int) ≠ 0 by decide)
  have bp2 := Int.emod_lt_of_pos r (show (0 : Int) < 65536 by decide)
  have bq := Int.emod_nonneg c (show (256 : Int) ≠ 0 by decide)
  have bq2 := Int.emod_lt_of_pos c (show (0 : Int) < 256 by decide)
  have bs := Int.emod_nonneg b (show (65536 : Int) ≠ 0 by decide)
  have bs2 := Int.emod_lt_of_pos b (show (0 : Int) < 65536 by decide)
  have bu := Int.emod_nonneg d (show (256 : Int) ≠ 0 by decide)
  have bu2 := Int.emod_lt_of_pos d (show (0 : Int) < 256 by decide)
  rw [show fo r b true 65536 = z1 by rw [← hz1, ← hp, ← hs]; rfl, show fo c d true 256 = z2 by rw [← hz2, ← hq, ← hu]; rfl]
  have H1 : Hid (∀ W : World, Calls Tryd.prog 34 #[.int .i64 r, .int .i64 65536] W fun e w' => e = .returned (.int .i64 p) ∧ w' = W) := Lib.hid (fun W => by
    have := mod_s (w := W) r 65536 (by decide) (by decide)
    rwa [hp] at this)
  have H2 : Hid (∀ W : World, Calls Tryd.prog 34 #[.int .i64 c, .int .i64 256] W fun e w' => e = .returned (.int .i64 q) ∧ w' = W) := Lib.hid (fun W => by
    have := mod_s (w := W) c 256 (by decide) (by decide)
    rwa [hq] at this)
  have H3 : Hid (∀ W : World, Calls Tryd.prog 34 #[.int .i64 b, .int .i64 65536] W fun e w' => e = .returned (.int .i64 s) ∧ w' = W) := Lib.hid (fun W => by
    have := mod_s (w := W) b 65536 (by decide) (by decide)
    rwa [hs] at this)
  have H4 : Hid (∀ W : World, Calls Tryd.prog 34 #[.int .i64 d, .int .i64 256] W fun e w' => e = .returned (.int .i64 u) ∧ w' = W) := Lib.hid (fun W => by
    have := mod_s (w := W) d 256 (by decide) (by decide)
    rwa [hu] at this)
  have H5 : Hid (∀ W : World, Calls Tryd.prog 34 #[.int .i64 (p + s), .int .i64 65536] W fun e w' => e = .returned (.int .i64 z1) ∧ w' = W) := Lib.hid (fun W => by
    have := mod_s (w := W) (p + s) 65536 (by decide) (by decide)
    rwa [hz1] at this)
  have H6 : Hid (∀ W : World, Calls Tryd.prog 34 #[.int .i64 (q + u), .int .i64 256] W fun e w' => e = .returned (.int .i64 z2) ∧ w' = W) := Lib.hid (fun W => by
    have := mod_s (w := W) (q + u) 256 (by decide) (by decide)
    rwa [hz2] at this)
  rw [hp] at bp bp2
  rw [hq] at bq bq2
  rw [hs] at bs bs2
  rw [hu] at bu bu2
  clear hp hq hs hu hz1 hz2
  have hw1 : IntKind.i64.wrap (p + s) = p + s := IntWalk.i64_in _ (by omega)
  have hw2 : IntKind.i64.wrap (q + u) = q + u := IntWalk.i64_in _ (by omega)
  clear bp bp2 bq bq2 bs bs2 bu bu2
  have HB : Hid (SB w 3 ([(w.heap.size + 1 + 1, 34, #[.int .i64 0, .int .i64 0]), (w.heap.size + 1, 34, #[.int .i64 b, .int .i64 d]), (w.heap.size, 30, #[.int .i64 r, .int .i64 c, .bool true, .bool true])] : List (Nat × TypeId × Array Value)) (((w.alloc (.cells #[.int .i64 r, .int .i64 c, .bool true, .bool true] 30)).alloc (.cells #[.int .i64 b, .int .i64 d] 34)).alloc (.cells #[.int .i64 0, .int .i64 0] 34))) := Lib.hid (((sb1 w 30 #[.int .i64 r, .int .i64 c, .bool true, .bool true]).push (by simp) 34 #[.int .i64 b, .int .i64 d]).push (by simp) 34 #[.int .i64 0, .int .i64 0])
  go_enter Tryd.func17, Tryd.ntmps17
  go_wp2_with fail
  refine wp_region_phases (S := (fun vals W => SX w 3 ([.new 34 #[.int .i64 0, .int .i64 0], .put 0 #[.int .i64 p, .int .i64 q]] : List Stp) vals ([(w.heap.size + 1 + 1, 34, #[.int .i64 0, .int .i64 0]), (w.heap.size + 1, 34, #[.int .i64 b, .int .i64 d]), (w.heap.size, 30, #[.int .i64 r, .int .i64 c, .bool true, .bool true])] : List (Nat × TypeId × Array Value)) W)) (E := (fun _ _ => True)) [7, 8] [(2, Is (.pointer (some ⟨w.heap.size, 0, none⟩))), (3, Is (.pointer (some ⟨w.heap.size + 1, 0, none⟩))), (4, Is (.pointer (some ⟨w.heap.size + 1 + 1, 0, none⟩)))] [(6, Is (.pointer (some ⟨w.heap.size, 0, none⟩))), (7, Is (.int .i64 r)), (8, Is (.int .i64 p)), (9, Is (.pointer (some ⟨w.heap.size, 1, none⟩))), (10, Is (.int .i64 c)), (11, Is (.int .i64 q)), (12, Is (.agg #[.int .i64 p, .int .i64 q]))]
    [.op [2] none, .op [6] none, .op [7] none, .op [2] none, .op [9] none, .op [10] none, .op [8, 11] none, .phase 0 [] [], .phase 1 [12] [(0, 5)]] (by as_aux_lemma => kernel_rfl) ?_ ?_ ?_ ?_ ?_ ⟨stable_is _ _, stable_is _ _, stable_is _ _, stable_is _ _, stable_is _ _, stable_is _ _, stable_is _ _, stable_is _ _, stable_is _ _, stable_is _ _, trivial⟩ ?_ (HB.out.drew) ?_ ?_
  · as_aux_lemma => kernel_rfl
  · as_aux_lemma => kernel_rfl
  · as_aux_lemma => kernel_rfl
  · as_aux_lemma => kernel_rfl
  · as_aux_lemma => kernel_rfl
  · exact ⟨rfl, rfl, rfl, trivial⟩
  · refine ⟨?_, ?_, ?_, ?_, ?_, ?_, ?_, ?_, ?_, trivial⟩
    · as_aux_lemma =>
        intro vals a W hS hL
        have e2 : a.tmps.getD 2 undef = .pointer (some ⟨w.heap.size, 0, none⟩) := hL.1
        clear hL
        go_simp
        exact ⟨⟨fun d hd => by injection hd with hd; subst hd; rfl, fun h => by cases h⟩, hS, trivial⟩
    · as_aux_lemma =>
        intro vals a W hS hL
        have e6 : a.tmps.getD 6 undef = .pointer (some ⟨w.heap.size, 0, none⟩) := hL.1
        clear hL
        have kb : Bk W (w.heap.size) 30 #[.int .i64 r, .int .i64 c, .bool true, .bool true] := hS.bk 2 rfl rfl
        have f0 := kb.cell 0
        clear kb
        go_simp
        exact ⟨⟨fun d hd => by injection hd with hd; subst hd; rfl, fun h => by cases h⟩, hS, trivial⟩
    · as_aux_lemma =>
        intro vals a W hS hL
        have e7 : a.tmps.getD 7 undef = .int .i64 r := hL.1
        clear hL
        go_simp
        refine (quiet_b (H1.out _)).mono ?_
        rintro e W' ⟨rfl, hb⟩
        exact ⟨_, rfl, ⟨fun d hd => by injection hd with hd; subst hd; rfl, fun h => by cases h⟩, hS.call hb, trivial⟩
    · as_aux_lemma =>
        intro vals a W hS hL
        have e2 : a.tmps.getD 2 undef = .pointer (some ⟨w.heap.size, 0, none⟩) := hL.1
        clear hL
        go_simp
        exact ⟨⟨fun d hd => by injection hd with hd; subst hd; rfl, fun h => by cases h⟩, hS, trivial⟩
    · as_aux_lemma =>
        intro vals a W hS hL
        have e9 : a.tmps.getD 9 undef = .pointer (some ⟨w.heap.size, 1, none⟩) := hL.1
        clear hL
        have kb : Bk W (w.heap.size) 30 #[.int .i64 r, .int .i64 c, .bool true, .bool true] := hS.bk 2 rfl rfl
        have f1 := kb.cell 1
        clear kb
        go_simp
        exact ⟨⟨fun d hd => by injection hd with hd; subst hd; rfl, fun h => by cases h⟩, hS, trivial⟩
    · as_aux_lemma =>
        intro vals a W hS hL
        have e10 : a.tmps.getD 10 undef = .int .i64 c := hL.1
        clear hL
        go_simp
        refine (quiet_b (H2.out _)).mono ?_
        rintro e W' ⟨rfl, hb⟩
        exact ⟨_, rfl, ⟨fun d hd => by injection hd with hd; subst hd; rfl, fun h => by cases h⟩, hS.call hb, trivial⟩
    · as_aux_lemma =>
        intro vals a W hS hL
        have e8 : a.tmps.getD 8 undef = .int .i64 p := hL.1
        have e11 : a.tmps.getD 11 undef = .int .i64 q := hL.2.1
        clear hL
        rw [Array.getD_eq_getD_getElem?] at e8 e11
        go_simp
        exact ⟨⟨fun d hd => by injection hd with hd; subst hd; rfl, fun h => by cases h⟩, hS, trivial⟩
    · as_aux_lemma =>
        intro a W vals hv hS hL hp
        clear hL
        match vals, hv, hS with
        | [], _, hS =>
          have hS2 : SX w 3 ([.new 34 #[.int .i64 0, .int .i64 0], .put 0 #[.int .i64 p, .int .i64 q]] : List Stp) [] ([(w.heap.size + 1 + 1, 34, #[.int .i64 0, .int .i64 0]), (w.heap.size + 1, 34, #[.int .i64 b, .int .i64 d]), (w.heap.size, 30, #[.int .i64 r, .int .i64 c, .bool true, .bool true])] : List (Nat × TypeId × Array Value)) W := hS
          clear hS
          have hB0 := hS2
          have hB : SB w 3 ([(w.heap.size + 1 + 1, 34, #[.int .i64 0, .int .i64 0]), (w.heap.size + 1, 34, #[.int .i64 b, .int .i64 d]), (w.heap.size, 30, #[.int .i64 r, .int .i64 c, .bool true, .bool true])] : List (Nat × TypeId × Array Value)) W := hB0
          clear hB0
          have hF := hB.alloc 34 #[.int .i64 0, .int .i64 0]
          have hz := hB.size
          have hlt : ∀ qx ∈ ([(w.heap.size + 1 + 1, 34, #[.int .i64 0, .int .i64 0]), (w.heap.size + 1, 34, #[.int .i64 b, .int .i64 d]), (w.heap.size, 30, #[.int .i64 r, .int .i64 c, .bool true, .bool true])] : List (Nat × TypeId × Array Value)), qx.1 ≠ W.heap.size := fun qx hx => Nat.ne_of_lt (hB.bk qx hx).lt
          clear hB
          go_simp
          exact ⟨⟨_, rfl, hz, hlt, hF⟩, trivial, trivial⟩
    · as_aux_lemma =>
        intro a W vals hv hS hL hp
        have e12 : a.tmps.getD 12 undef = .agg #[.int .i64 p, .int .i64 q] := hL.1
        clear hL
        match vals, hv, hS with
        | [v0], _, hS =>
          have hS2 : SX w 3 ([.new 34 #[.int .i64 0, .int .i64 0], .put 0 #[.int .i64 p, .int .i64 q]] : List Stp) [v0] ([(w.heap.size + 1 + 1, 34, #[.int .i64 0, .int .i64 0]), (w.heap.size + 1, 34, #[.int .i64 b, .int .i64 d]), (w.heap.size, 30, #[.int .i64 r, .int .i64 c, .bool true, .bool true])] : List (Nat × TypeId × Array Value)) W := hS
          clear hS
          obtain ⟨g0, rfl, hg0, hn0, hB0⟩ := hS2
          have hB : SB w 3 ([(g0, 34, #[.int .i64 0, .int .i64 0]), (w.heap.size + 1 + 1, 34, #[.int .i64 0, .int .i64 0]), (w.heap.size + 1, 34, #[.int .i64 b, .int .i64 d]), (w.heap.size, 30, #[.int .i64 r, .int .i64 c, .bool true, .bool true])] : List (Nat × TypeId × Array Value)) W := hB0
          clear hB0
          simp only [List.mem_cons, List.not_mem_nil, or_false, forall_eq_or_imp, forall_eq] at hn0
          have e5 := hp.1 (by simp)
          simp only [List.getElem?_cons_zero, Option.some.injEq] at e5
          rw [Array.getD_eq_getD_getElem?] at e5
          have e5x := e5.symm
          clear e5
          rw [Array.getD_eq_getD_getElem?] at e12
          have kz := hB.box (i := 0) rfl
          have z0 := kz.frozen 0
          have q0 := kz.cell 0
          have z1 := kz.frozen 1
          have q1 := kz.cell 1
          have hge : w.heap.size ≤ (g0) := by omega
          have hne : ∀ qx ∈ butBox ([(g0, 34, #[.int .i64 0, .int .i64 0]), (w.heap.size + 1 + 1, 34, #[.int .i64 0, .int .i64 0]), (w.heap.size + 1, 34, #[.int .i64 b, .int .i64 d]), (w.heap.size, 30, #[.int .i64 r, .int .i64 c, .bool true, .bool true])] : List (Nat × TypeId × Array Value)) 0, qx.1 ≠ (g0) := by simp [butBox] <;> omega
          have hF := hB.put2 (i := 0) rfl hge hne (.int .i64 p : Value) (.int .i64 q : Value)
          clear kz hB hne hge
          go_simp
          exact ⟨⟨g0, rfl, hg0, by simp only [List.mem_cons, List.not_mem_nil, or_false, forall_eq_or_imp, forall_eq]; exact hn0, hF⟩, trivial, trivial⟩
  · intro a W' vals hd hsz hT hF hv hP hS
    obtain ⟨v0, v1, rfl⟩ : ∃ v0 v1, vals = [v0, v1] := by
      match vals, hv with
      | [v0, v1], _ => exact ⟨v0, v1, rfl⟩
    have hS2 : SX w 3 ([.new 34 #[.int .i64 0, .int .i64 0], .put 0 #[.int .i64 p, .int .i64 q]] : List Stp) [v0, v1] ([(w.heap.size + 1 + 1, 34, #[.int .i64 0, .int .i64 0]), (w.heap.size + 1, 34, #[.int .i64 b, .int .i64 d]), (w.heap.size, 30, #[.int .i64 r, .int .i64 c, .bool true, .bool true])] : List (Nat × TypeId × Array Value)) W' := hS
    clear hS
    obtain ⟨g0, hv0, hg0, hn0, hB0⟩ := hS2
    simp only [List.mem_cons, List.not_mem_nil, or_false, forall_eq_or_imp, forall_eq] at hn0
    have hB : SB w 3 ([(g0, 34, #[.int .i64 p, .int .i64 q]), (w.heap.size + 1 + 1, 34, #[.int .i64 0, .int .i64 0]), (w.heap.size + 1, 34, #[.int .i64 b, .int .i64 d]), (w.heap.size, 30, #[.int .i64 r, .int .i64 c, .bool true, .bool true])] : List (Nat × TypeId × Array Value)) W' := hB0
    clear hB0
    subst hv0
    have e5 : a.tmps.getD 5 undef = .pointer (some ⟨g0, 0, none⟩) := by
      have := hP 0 7 _ 5 rfl (by simp) rfl rfl
      simpa using this.symm
    have e2 : a.tmps.getD 2 undef = .pointer (some ⟨w.heap.size, 0, none⟩) := hT 2 (by simp)
    have e3 : a.tmps.getD 3 undef = .pointer (some ⟨w.heap.size + 1, 0, none⟩) := hT 3 (by simp)
    have e4 : a.tmps.getD 4 undef = .pointer (some ⟨w.heap.size + 1 + 1, 0, none⟩) := hT 4 (by simp)
    clear hT hF hP
    rw [act_lit 34 a hd hsz]
    simp only [List.range, List.range.loop, List.map, e2, e3, e4, e5]
    clear hd hsz e2 e3 e4 e5
    have HB3 := Lib.hid hB
    clear HB hB
    have kg := HB3.out.box (i := 0) rfl
    have cg0 := kg.cell 0
    have zg0 := kg.frozen 0
    have cg1 := kg.cell 1
    have zg1 := kg.frozen 1
    clear kg
    have ke := HB3.out.box (i := 1) rfl
    have ce0 := ke.cell 0
    have ze0 := ke.frozen 0
    have ce1 := ke.cell 1
    have ze1 := ke.frozen 1
    clear ke
    have kb := HB3.out.box (i := 2) rfl
    have cb0 := kb.cell 0
    have cb1 := kb.cell 1
    clear kb
    have kr := HB3.out.box (i := 3) rfl
    have cr0 := kr.cell 0
    have cr1 := kr.cell 1
    have cr2 := kr.cell 2
    have cr3 := kr.cell 3
    clear kr
    go_wp2_with fail
    go_still_tail 8, (by kernel_rfl)
    still_call (H3.out _)
    repeat still_step
    still_call (H5.out _)
    repeat still_step
    refine wpStill_nil ?_
    change wpList _ _ _ _ _ W'.drew
    clear cg0 zg0 cg1 zg1 ce0 ze0 ce1 ze1 cb0 cb1 cr0 cr1 cr2 cr3
    have HB4 := Lib.hid HB3.out.drew
    clear HB3
    have HB3 := HB4
    clear HB4
    generalize W'.drew = U1 at *
    have kg := HB3.out.box (i := 0) rfl
    have cg0 := kg.cell 0
    have zg0 := kg.frozen 0
    have cg1 := kg.cell 1
    have zg1 := kg.frozen 1
    clear kg
    have ke := HB3.out.box (i := 1) rfl
    have ce0 := ke.cell 0
    have ze0 := ke.frozen 0
    have ce1 := ke.cell 1
    have ze1 := ke.frozen 1
    clear ke
    have kb := HB3.out.box (i := 2) rfl
    have cb0 := kb.cell 0
    have cb1 := kb.cell 1
    clear kb
    have kr := HB3.out.box (i := 3) rfl
    have cr0 := kr.cell 0
    have cr1 := kr.cell 1
    have cr2 := kr.cell 2
    have cr3 := kr.cell 3
    clear kr
    go_wp2_with fail
    clear cg0 zg0 cg1 zg1 ce0 ze0 ce1 ze1 cb0 cb1 cr0 cr1 cr2 cr3
    have HB4 := Lib.hid (HB3.out.put1 (g := g0) (i := 0) rfl (by omega) (by simp [butBox]; omega) 0 (.int .i64 z1))
    clear HB3
    have HB3 := HB4
    clear HB4
    generalize (U1.setCell ⟨g0, 0, none⟩ (.int .i64 z1)) = V2 at *
    have kg := HB3.out.box (i := 0) rfl
    have cg0 := kg.cell 0
    have zg0 := kg.frozen 0
    have cg1 := kg.cell 1
    have zg1 := kg.frozen 1
    clear kg
    have ke := HB3.out.box (i := 1) rfl
    have ce0 := ke.cell 0
    have ze0 := ke.frozen 0
    have ce1 := ke.cell 1
    have ze1 := ke.frozen 1
    clear ke
    have kb := HB3.out.box (i := 2) rfl
    have cb0 := kb.cell 0
    have cb1 := kb.cell 1
    clear kb
    have kr := HB3.out.box (i := 3) rfl
    have cr0 := kr.cell 0
    have cr1 := kr.cell 1
    have cr2 := kr.cell 2
    have cr3 := kr.cell 3
    clear kr
    go_still_tail 8, (by kernel_rfl)
    still_call (H4.out _)
    repeat still_step
    still_call (H6.out _)
    repeat still_step
    refine wpStill_nil ?_
    change wpList _ _ _ _ _ V2.drew
    clear cg0 zg0 cg1 zg1 ce0 ze0 ce1 ze1 cb0 cb1 cr0 cr1 cr2 cr3
    have HB4 := Lib.hid HB3.out.drew
    clear HB3
    have HB3 := HB4
    clear HB4
    generalize V2.drew = U2 at *
    have kg := HB3.out.box (i := 0) rfl
    have cg0 := kg.cell 0
    have zg0 := kg.frozen 0
    have cg1 := kg.cell 1
    have zg1 := kg.frozen 1
    clear kg
    have ke := HB3.out.box (i := 1) rfl
    have ce0 := ke.cell 0
    have ze0 := ke.frozen 0
    have ce1 := ke.cell 1
    have ze1 := ke.frozen 1
    clear ke
    have kb := HB3.out.box (i := 2) rfl
    have cb0 := kb.cell 0
    have cb1 := kb.cell 1
    clear kb
    have kr := HB3.out.box (i := 3) rfl
    have cr0 := kr.cell 0
    have cr1 := kr.cell 1
    have cr2 := kr.cell 2
    have cr3 := kr.cell 3
    clear kr
    go_wp2
    have hF0 := HB3.out.put1 (g := g0) (i := 0) rfl (by omega) (by simp [butBox, setBox]; omega) 1 (.int .i64 z2)
    have hF := hF0.put2 (g := w.heap.size + 1 + 1) (i := 1) rfl (by omega) (by simp [butBox, setBox]; omega) (.int .i64 z1) (.int .i64 z2)
    have kz := hF.box (i := 1) rfl
    have r0 := kz.cell 0
    have r1 := kz.cell 1
    clear cg0 zg0 cg1 zg1 ce0 ze0 ce1 ze1 cb0 cb1 cr0 cr1 cr2 cr3
    exact bodyPost_ret (v := .agg #[.int .i64 z1, .int .i64 z2]) (by simp [results, Tryd.results17, go_sem, r0, r1]) rfl ⟨rfl, hF.bel⟩

set_option maxRecDepth 20000 in
set_option maxHeartbeats 2000000 in
theorem bAt_True_False {w : World} (r c b d : Int) :
    Calls Tryd.prog 17 #[.agg #[.int .i64 r, .int .i64 c, .bool true, .bool false], .agg #[.int .i64 b, .int .i64 d]] w fun e w' => e = .returned (.agg #[.int .i64 (fo r b true 65536), .int .i64 (fo c d false 256)]) ∧ Below w.heap.size w w' := by
  obtain ⟨p, hp⟩ : ∃ p, r % 65536 = p := ⟨_, rfl⟩
  obtain ⟨q, hq⟩ : ∃ q, c % 256 = q := ⟨_, rfl⟩
  obtain ⟨s, hs⟩ : ∃ s, b % 65536 = s := ⟨_, rfl⟩
  obtain ⟨u, hu⟩ : ∃ u, d % 256 = u := ⟨_, rfl⟩
  obtain ⟨z1, hz1⟩ : ∃ z, (p + s) % 65536 = z := ⟨_, rfl⟩
  obtain ⟨z2, hz2⟩ : ∃ z, (q + u) % 256 = z := ⟨_, rfl⟩
  have bp := Int.emod_nonneg r (show (65536 : Int) ≠ 0 by decide)
  have bp2 := Int.emod_lt_of_pos r (show (0 : Int) < 65536 by decide)
  have bq := Int.emod_nonneg c (show (256 : Int) ≠ 0 by decide)
  have bq2 := Int.emod_lt_of_pos c (show (0 : Int) < 256 by decide)
  have bs := Int.emod_nonneg b (show (65536 : Int) ≠ 0 by decide)
  have bs2 := Int.emod_lt_of_pos b (show (0 : Int) < 65536 by decide)
  have bu := Int.emod_nonneg d (show (256 : Int) ≠ 0 by decide)
  have bu2 := Int.emod_lt_of_pos d (show (0 : Int) < 256 by decide)
  rw [show fo r b true 65536 = z1 by rw [← hz1, ← hp, ← hs]; rfl, show fo c d false 256 = q by exact hq]
  have H1 : Hid (∀ W : World, Calls Tryd.prog 34 #[.int .i64 r, .int .i64 65536] W fun e w' => e = .returned (.int .i64 p) ∧ w' = W) := Lib.hid (fun W => by
    have := mod_s (w := W) r 65536 (by decide) (by decide)
    rwa [hp] at this)
  have H2 : Hid (∀ W : World, Calls Tryd.prog 34 #[.int .i64 c, .int .i64 256] W fun e w' => e = .returned (.int .i64 q) ∧ w' = W) := Lib.hid (fun W => by
    have := mod_s (w := W) c 256 (by decide) (by decide)
    rwa [hq] at this)
  have H3 : Hid (∀ W : World, Calls Tryd.prog 34 #[.int .i64 b, .int .i64 65536] W fun e w' => e = .returned (.int .i64 s) ∧ w' = W) := Lib.hid (fun W => by
    have := mod_s (w := W) b 65536 (by decide) (by decide)
    rwa [hs] at this)
  have H4 : Hid (∀ W : World, Calls Tryd.prog 34 #[.int .i64 d, .int .i64 256] W fun e w' => e = .returned (.int .i64 u) ∧ w' = W) := Lib.hid (fun W => by
    have := mod_s (w := W) d 256 (by decide) (by decide)
    rwa [hu] at this)
  have H5 : Hid (∀ W : World, Calls Tryd.prog 34 #[.int .i64 (p + s), .int .i64 65536] W fun e w' => e = .returned (.int .i64 z1) ∧ w' = W) := Lib.hid (fun W => by
    have := mod_s (w := W) (p + s) 65536 (by decide) (by decide)
    rwa [hz1] at this)
  have H6 : Hid (∀ W : World, Calls Tryd.prog 34 #[.int .i64 (q + u), .int .i64 256] W fun e w' => e = .returned (.int .i64 z2) ∧ w' = W) := Lib.hid (fun W => by
    have := mod_s (w := W) (q + u) 256 (by decide) (by decide)
    rwa [hz2] at this)
  rw [hp] at bp bp2
  rw [hq] at bq bq2
  rw [hs] at bs bs2
  rw [hu] at bu bu2
  clear hp hq hs hu hz1 hz2
  have hw1 : IntKind.i64.wrap (p + s) = p + s := IntWalk.i64_in _ (by omega)
  have hw2 : IntKind.i64.wrap (q + u) = q + u := IntWalk.i64_in _ (by omega)
  clear bp bp2 bq bq2 bs bs2 bu bu2
  have HB : Hid (SB w 3 ([(w.heap.size + 1 + 1, 34, #[.int .i64 0, .int .i64 0]), (w.heap.size + 1, 34, #[.int .i64 b, .int .i64 d]), (w.heap.size, 30, #[.int .i64 r, .int .i64 c, .bool true, .bool false])] : List (Nat × TypeId × Array Value)) (((w.alloc (.cells #[.int .i64 r, .int .i64 c, .bool true, .bool false] 30)).alloc (.cells #[.int .i64 b, .int .i64 d] 34)).alloc (.cells #[.int .i64 0, .int .i64 0] 34))) := Lib.hid (((sb1 w 30 #[.int .i64 r, .int .i64 c, .bool true, .bool false]).push (by simp) 34 #[.int .i64 b, .int .i64 d]).push (by simp) 34 #[.int .i64 0, .int .i64 0])
  go_enter Tryd.func17, Tryd.ntmps17
  go_wp2_with fail
  refine wp_region_phases (S := (fun vals W => SX w 3 ([.new 34 #[.int .i64 0, .int .i64 0], .put 0 #[.int .i64 p, .int .i64 q]] : List Stp) vals ([(w.heap.size + 1 + 1, 34, #[.int .i64 0, .int .i64 0]), (w.heap.size + 1, 34, #[.int .i64 b, .int .i64 d]), (w.heap.size, 30, #[.int .i64 r, .int .i64 c, .bool true, .bool false])] : List (Nat × TypeId × Array Value)) W)) (E := (fun _ _ => True)) [7, 8] [(2, Is (.pointer (some ⟨w.heap.size, 0, none⟩))), (3, Is (.pointer (some ⟨w.heap.size + 1, 0, none⟩))), (4, Is (.pointer (some ⟨w.heap.size + 1 + 1, 0, none⟩)))] [(6, Is (.pointer (some ⟨w.heap.size, 0, none⟩))), (7, Is (.int .i64 r)), (8, Is (.int .i64 p)), (9, Is (.pointer (some ⟨w.heap.size, 1, none⟩))), (10, Is (.int .i64 c)), (11, Is (.int .i64 q)), (12, Is (.agg #[.int .i64 p, .int .i64 q]))]
    [.op [2] none, .op [6] none, .op [7] none, .op [2] none, .op [9] none, .op [10] none, .op [8, 11] none, .phase 0 [] [], .phase 1 [12] [(0, 5)]] (by as_aux_lemma => kernel_rfl) ?_ ?_ ?_ ?_ ?_ ⟨stable_is _ _, stable_is _ _, stable_is _ _, stable_is _ _, stable_is _ _, stable_is _ _, stable_is _ _, stable_is _ _, stable_is _ _, stable_is _ _, trivial⟩ ?_ (HB.out.drew) ?_ ?_
  · as_aux_lemma => kernel_rfl
  · as_aux_lemma => kernel_rfl
  · as_aux_lemma => kernel_rfl
  · as_aux_lemma => kernel_rfl
  · as_aux_lemma => kernel_rfl
  · exact ⟨rfl, rfl, rfl, trivial⟩
  · refine ⟨?_, ?_, ?_, ?_, ?_, ?_, ?_, ?_, ?_, trivial⟩
    · as_aux_lemma =>
        intro vals a W hS hL
        have e2 : a.tmps.getD 2 undef = .pointer (some ⟨w.heap.size, 0, none⟩) := hL.1
        clear hL
        go_simp
        exact ⟨⟨fun d hd => by injection hd with hd; subst hd; rfl, fun h => by cases h⟩, hS, trivial⟩
    · as_aux_lemma =>
        intro vals a W hS hL
        have e6 : a.tmps.getD 6 undef = .pointer (some ⟨w.heap.size, 0, none⟩) := hL.1
        clear hL
        have kb : Bk W (w.heap.size) 30 #[.int .i64 r, .int .i64 c, .bool true, .bool false] := hS.bk 2 rfl rfl
        have f0 := kb.cell 0
        clear kb
        go_simp
        exact ⟨⟨fun d hd => by injection hd with hd; subst hd; rfl, fun h => by cases h⟩, hS, trivial⟩
    · as_aux_lemma =>
        intro vals a W hS hL
        have e7 : a.tmps.getD 7 undef = .int .i64 r := hL.1
        clear hL
        go_simp
        refine (quiet_b (H1.out _)).mono ?_
        rintro e W' ⟨rfl, hb⟩
        exact ⟨_, rfl, ⟨fun d hd => by injection hd with hd; subst hd; rfl, fun h => by cases h⟩, hS.call hb, trivial⟩
    · as_aux_lemma =>
        intro vals a W hS hL
        have e2 : a.tmps.getD 2 undef = .pointer (some ⟨w.heap.size, 0, none⟩) := hL.1
        clear hL
        go_simp
        exact ⟨⟨fun d hd => by injection hd with hd; subst hd; rfl, fun h => by cases h⟩, hS, trivial⟩
    · as_aux_lemma =>
        intro vals a W hS hL
        have e9 : a.tmps.getD 9 undef = .pointer (some ⟨w.heap.size, 1, none⟩) := hL.1
        clear hL
        have kb : Bk W (w.heap.size) 30 #[.int .i64 r, .int .i64 c, .bool true, .bool false] := hS.bk 2 rfl rfl
        have f1 := kb.cell 1
        clear kb
        go_simp
        exact ⟨⟨fun d hd => by injection hd with hd; subst hd; rfl, fun h => by cases h⟩, hS, trivial⟩
    · as_aux_lemma =>
        intro vals a W hS hL
        have e10 : a.tmps.getD 10 undef = .int .i64 c := hL.1
        clear hL
        go_simp
        refine (quiet_b (H2.out _)).mono ?_
        rintro e W' ⟨rfl, hb⟩
        exact ⟨_, rfl, ⟨fun d hd => by injection hd with hd; subst hd; rfl, fun h => by cases h⟩, hS.call hb, trivial⟩
    · as_aux_lemma =>
        intro vals a W hS hL
        have e8 : a.tmps.getD 8 undef = .int .i64 p := hL.1
        have e11 : a.tmps.getD 11 undef = .int .i64 q := hL.2.1
        clear hL
        rw [Array.getD_eq_getD_getElem?] at e8 e11
        go_simp
        exact ⟨⟨fun d hd => by injection hd with hd; subst hd; rfl, fun h => by cases h⟩, hS, trivial⟩
    · as_aux_lemma =>
        intro a W vals hv hS hL hp
        clear hL
        match vals, hv, hS with
        | [], _, hS =>
          have hS2 : SX w 3 ([.new 34 #[.int .i64 0, .int .i64 0], .put 0 #[.int .i64 p, .int .i64 q]] : List Stp) [] ([(w.heap.size + 1 + 1, 34, #[.int .i64 0, .int .i64 0]), (w.heap.size + 1, 34, #[.int .i64 b, .int .i64 d]), (w.heap.size, 30, #[.int .i64 r, .int .i64 c, .bool true, .bool false])] : List (Nat × TypeId × Array Value)) W := hS
          clear hS
          have hB0 := hS2
          have hB : SB w 3 ([(w.heap.size + 1 + 1, 34, #[.int .i64 0, .int .i64 0]), (w.heap.size + 1, 34, #[.int .i64 b, .int .i64 d]), (w.heap.size, 30, #[.int .i64 r, .int .i64 c, .bool true, .bool false])] : List (Nat × TypeId × Array Value)) W := hB0
          clear hB0
          have hF := hB.alloc 34 #[.int .i64 0, .int .i64 0]
          have hz := hB.size
          have hlt : ∀ qx ∈ ([(w.heap.size + 1 + 1, 34, #[.int .i64 0, .int .i64 0]), (w.heap.size + 1, 34, #[.int .i64 b, .int .i64 d]), (w.heap.size, 30, #[.int .i64 r, .int .i64 c, .bool true, .bool false])] : List (Nat × TypeId × Array Value)), qx.1 ≠ W.heap.size := fun qx hx => Nat.ne_of_lt (hB.bk qx hx).lt
          clear hB
          go_simp
          exact ⟨⟨_, rfl, hz, hlt, hF⟩, trivial, trivial⟩
    · as_aux_lemma =>
        intro a W vals hv hS hL hp
        have e12 : a.tmps.getD 12 undef = .agg #[.int .i64 p, .int .i64 q] := hL.1
        clear hL
        match vals, hv, hS with
        | [v0], _, hS =>
          have hS2 : SX w 3 ([.new 34 #[.int .i64 0, .int .i64 0], .put 0 #[.int .i64 p, .int .i64 q]] : List Stp) [v0] ([(w.heap.size + 1 + 1, 34, #[.int .i64 0, .int .i64 0]), (w.heap.size + 1, 34, #[.int .i64 b, .int .i64 d]), (w.heap.size, 30, #[.int .i64 r, .int .i64 c, .bool true, .bool false])] : List (Nat × TypeId × Array Value)) W := hS
          clear hS
          obtain ⟨g0, rfl, hg0, hn0, hB0⟩ := hS2
          have hB : SB w 3 ([(g0, 34, #[.int .i64 0, .int .i64 0]), (w.heap.size + 1 + 1, 34, #[.int .i64 0, .int .i64 0]), (w.heap.size + 1, 34, #[.int .i64 b, .int .i64 d]), (w.heap.size, 30, #[.int .i64 r, .int .i64 c, .bool true, .bool false])] : List (Nat × TypeId × Array Value)) W := hB0
          clear hB0
          simp only [List.mem_cons, List.not_mem_nil, or_false, forall_eq_or_imp, forall_eq] at hn0
          have e5 := hp.1 (by simp)
          simp only [List.getElem?_cons_zero, Option.some.injEq] at e5
          rw [Array.getD_eq_getD_getElem?] at e5
          have e5x := e5.symm
          clear e5
          rw [Array.getD_eq_getD_getElem?] at e12
          have kz := hB.box (i := 0) rfl
          have z0 := kz.frozen 0
          have q0 := kz.cell 0
          have z1 := kz.frozen 1
          have q1 := kz.cell 1
          have hge : w.heap.size ≤ (g0) := by omega
          have hne : ∀ qx ∈ butBox ([(g0, 34, #[.int .i64 0, .int .i64 0]), (w.heap.size + 1 + 1, 34, #[.int .i64 0, .int .i64 0]), (w.heap.size + 1, 34, #[.int .i64 b, .int .i64 d]), (w.heap.size, 30, #[.int .i64 r, .int .i64 c, .bool true, .bool false])] : List (Nat × TypeId × Array Value)) 0, qx.1 ≠ (g0) := by simp [butBox] <;> omega
          have hF := hB.put2 (i := 0) rfl hge hne (.int .i64 p : Value) (.int .i64 q : Value)
          clear kz hB hne hge
          go_simp
          exact ⟨⟨g0, rfl, hg0, by simp only [List.mem_cons, List.not_mem_nil, or_false, forall_eq_or_imp, forall_eq]; exact hn0, hF⟩, trivial, trivial⟩
  · intro a W' vals hd hsz hT hF hv hP hS
    obtain ⟨v0, v1, rfl⟩ : ∃ v0 v1, vals = [v0, v1] := by
      match vals, hv with
      | [v0, v1], _ => exact ⟨v0, v1, rfl⟩
    have hS2 : SX w 3 ([.new 34 #[.int .i64 0, .int .i64 0], .put 0 #[.int .i64 p, .int .i64 q]] : List Stp) [v0, v1] ([(w.heap.size + 1 + 1, 34, #[.int .i64 0, .int .i64 0]), (w.heap.size + 1, 34, #[.int .i64 b, .int .i64 d]), (w.heap.size, 30, #[.int .i64 r, .int .i64 c, .bool true, .bool false])] : List (Nat × TypeId × Array Value)) W' := hS
    clear hS
    obtain ⟨g0, hv0, hg0, hn0, hB0⟩ := hS2
    simp only [List.mem_cons, List.not_mem_nil, or_false, forall_eq_or_imp, forall_eq] at hn0
    have hB : SB w 3 ([(g0, 34, #[.int .i64 p, .int .i64 q]), (w.heap.size + 1 + 1, 34, #[.int .i64 0, .int .i64 0]), (w.heap.size + 1, 34, #[.int .i64 b, .int .i64 d]), (w.heap.size, 30, #[.int .i64 r, .int .i64 c, .bool true, .bool false])] : List (Nat × TypeId × Array Value)) W' := hB0
    clear hB0
    subst hv0
    have e5 : a.tmps.getD 5 undef = .pointer (some ⟨g0, 0, none⟩) := by
      have := hP 0 7 _ 5 rfl (by simp) rfl rfl
      simpa using this.symm
    have e2 : a.tmps.getD 2 undef = .pointer (some ⟨w.heap.size, 0, none⟩) := hT 2 (by simp)
    have e3 : a.tmps.getD 3 undef = .pointer (some ⟨w.heap.size + 1, 0, none⟩) := hT 3 (by simp)
    have e4 : a.tmps.getD 4 undef = .pointer (some ⟨w.heap.size + 1 + 1, 0, none⟩) := hT 4 (by simp)
    clear hT hF hP
    rw [act_lit 34 a hd hsz]
    simp only [List.range, List.range.loop, List.map, e2, e3, e4, e5]
    clear hd hsz e2 e3 e4 e5
    have HB3 := Lib.hid hB
    clear HB hB
    have kg := HB3.out.box (i := 0) rfl
    have cg0 := kg.cell 0
    have zg0 := kg.frozen 0
    have cg1 := kg.cell 1
    have zg1 := kg.frozen 1
    clear kg
    have ke := HB3.out.box (i := 1) rfl
    have ce0 := ke.cell 0
    have ze0 := ke.frozen 0
    have ce1 := ke.cell 1
    have ze1 := ke.frozen 1
    clear ke
    have kb := HB3.out.box (i := 2) rfl
    have cb0 := kb.cell 0
    have cb1 := kb.cell 1
    clear kb
    have kr := HB3.out.box (i := 3) rfl
    have cr0 := kr.cell 0
    have cr1 := kr.cell 1
    have cr2 := kr.cell 2
    have cr3 := kr.cell 3
    clear kr
    go_wp2_with fail
    go_still_tail 8, (by kernel_rfl)
    still_call (H3.out _)
    repeat still_step
    still_call (H5.out _)
    repeat still_step
    refine wpStill_nil ?_
    change wpList _ _ _ _ _ W'.drew
    clear cg0 zg0 cg1 zg1 ce0 ze0 ce1 ze1 cb0 cb1 cr0 cr1 cr2 cr3
    have HB4 := Lib.hid HB3.out.drew
    clear HB3
    have HB3 := HB4
    clear HB4
    generalize W'.drew = U1 at *
    have kg := HB3.out.box (i := 0) rfl
    have cg0 := kg.cell 0
    have zg0 := kg.frozen 0
    have cg1 := kg.cell 1
    have zg1 := kg.frozen 1
    clear kg
    have ke := HB3.out.box (i := 1) rfl
    have ce0 := ke.cell 0
    have ze0 := ke.frozen 0
    have ce1 := ke.cell 1
    have ze1 := ke.frozen 1
    clear ke
    have kb := HB3.out.box (i := 2) rfl
    have cb0 := kb.cell 0
    have cb1 := kb.cell 1
    clear kb
    have kr := HB3.out.box (i := 3) rfl
    have cr0 := kr.cell 0
    have cr1 := kr.cell 1
    have cr2 := kr.cell 2
    have cr3 := kr.cell 3
    clear kr
    go_wp2
    have hF0 := HB3.out.put1 (g := g0) (i := 0) rfl (by omega) (by simp [butBox]; omega) 0 (.int .i64 z1)
    have hF := hF0.put2 (g := w.heap.size + 1 + 1) (i := 1) rfl (by omega) (by simp [butBox, setBox]; omega) (.int .i64 z1) (.int .i64 q)
    have kz := hF.box (i := 1) rfl
    have r0 := kz.cell 0
    have r1 := kz.cell 1
    clear cg0 zg0 cg1 zg1 ce0 ze0 ce1 ze1 cb0 cb1 cr0 cr1 cr2 cr3
    exact bodyPost_ret (v := .agg #[.int .i64 z1, .int .i64 q]) (by simp [results, Tryd.results17, go_sem, r0, r1]) rfl ⟨rfl, hF.bel⟩

set_option maxRecDepth 20000 in
set_option maxHeartbeats 2000000 in
theorem bAt_False_True {w : World} (r c b d : Int) :
    Calls Tryd.prog 17 #[.agg #[.int .i64 r, .int .i64 c, .bool false, .bool true], .agg #[.int .i64 b, .int .i64 d]] w fun e w' => e = .returned (.agg #[.int .i64 (fo r b false 65536), .int .i64 (fo c d true 256)]) ∧ Below w.heap.size w w' := by
  obtain ⟨p, hp⟩ : ∃ p, r % 65536 = p := ⟨_, rfl⟩
  obtain ⟨q, hq⟩ : ∃ q, c % 256 = q := ⟨_, rfl⟩
  obtain ⟨s, hs⟩ : ∃ s, b % 65536 = s := ⟨_, rfl⟩
  obtain ⟨u, hu⟩ : ∃ u, d % 256 = u := ⟨_, rfl⟩
  obtain ⟨z1, hz1⟩ : ∃ z, (p + s) % 65536 = z := ⟨_, rfl⟩
  obtain ⟨z2, hz2⟩ : ∃ z, (q + u) % 256 = z := ⟨_, rfl⟩
  have bp := Int.emod_nonneg r (show (65536 : Int) ≠ 0 by decide)
  have bp2 := Int.emod_lt_of_pos r (show (0 : Int) < 65536 by decide)
  have bq := Int.emod_nonneg c (show (256 : Int) ≠ 0 by decide)
  have bq2 := Int.emod_lt_of_pos c (show (0 : Int) < 256 by decide)
  have bs := Int.emod_nonneg b (show (65536 : Int) ≠ 0 by decide)
  have bs2 := Int.emod_lt_of_pos b (show (0 : Int) < 65536 by decide)
  have bu := Int.emod_nonneg d (show (256 : Int) ≠ 0 by decide)
  have bu2 := Int.emod_lt_of_pos d (show (0 : Int) < 256 by decide)
  rw [show fo r b false 65536 = p by exact hp, show fo c d true 256 = z2 by rw [← hz2, ← hq, ← hu]; rfl]
  have H1 : Hid (∀ W : World, Calls Tryd.prog 34 #[.int .i64 r, .int .i64 65536] W fun e w' => e = .returned (.int .i64 p) ∧ w' = W) := Lib.hid (fun W => by
    have := mod_s (w := W) r 65536 (by decide) (by decide)
    rwa [hp] at this)
  have H2 : Hid (∀ W : World, Calls Tryd.prog 34 #[.int .i64 c, .int .i64 256] W fun e w' => e = .returned (.int .i64 q) ∧ w' = W) := Lib.hid (fun W => by
    have := mod_s (w := W) c 256 (by decide) (by decide)
    rwa [hq] at this)
  have H3 : Hid (∀ W : World, Calls Tryd.prog 34 #[.int .i64 b, .int .i64 65536] W fun e w' => e = .returned (.int .i64 s) ∧ w' = W) := Lib.hid (fun W => by
    have := mod_s (w := W) b 65536 (by decide) (by decide)
    rwa [hs] at this)
  have H4 : Hid (∀ W : World, Calls Tryd.prog 34 #[.int .i64 d, .int .i64 256] W fun e w' => e = .returned (.int .i64 u) ∧ w' = W) := Lib.hid (fun W => by
    have := mod_s (w := W) d 256 (by decide) (by decide)
    rwa [hu] at this)
  have H5 : Hid (∀ W : World, Calls Tryd.prog 34 #[.int .i64 (p + s), .int .i64 65536] W fun e w' => e = .returned (.int .i64 z1) ∧ w' = W) := Lib.hid (fun W => by
    have := mod_s (w := W) (p + s) 65536 (by decide) (by decide)
    rwa [hz1] at this)
  have H6 : Hid (∀ W : World, Calls Tryd.prog 34 #[.int .i64 (q + u), .int .i64 256] W fun e w' => e = .returned (.int .i64 z2) ∧ w' = W) := Lib.hid (fun W => by
    have := mod_s (w := W) (q + u) 256 (by decide) (by decide)
    rwa [hz2] at this)
  rw [hp] at bp bp2
  rw [hq] at bq bq2
  rw [hs] at bs bs2
  rw [hu] at bu bu2
  clear hp hq hs hu hz1 hz2
  have hw1 : IntKind.i64.wrap (p + s) = p + s := IntWalk.i64_in _ (by omega)
  have hw2 : IntKind.i64.wrap (q + u) = q + u := IntWalk.i64_in _ (by omega)
  clear bp bp2 bq bq2 bs bs2 bu bu2
  have HB : Hid (SB w 3 ([(w.heap.size + 1 + 1, 34, #[.int .i64 0, .int .i64 0]), (w.heap.size + 1, 34, #[.int .i64 b, .int .i64 d]), (w.heap.size, 30, #[.int .i64 r, .int .i64 c, .bool false, .bool true])] : List (Nat × TypeId × Array Value)) (((w.alloc (.cells #[.int .i64 r, .int .i64 c, .bool false, .bool true] 30)).alloc (.cells #[.int .i64 b, .int .i64 d] 34)).alloc (.cells #[.int .i64 0, .int .i64 0] 34))) := Lib.hid (((sb1 w 30 #[.int .i64 r, .int .i64 c, .bool false, .bool true]).push (by simp) 34 #[.int .i64 b, .int .i64 d]).push (by simp) 34 #[.int .i64 0, .int .i64 0])
  go_enter Tryd.func17, Tryd.ntmps17
  go_wp2_with fail
  refine wp_region_phases (S := (fun vals W => SX w 3 ([.new 34 #[.int .i64 0, .int .i64 0], .put 0 #[.int .i64 p, .int .i64 q]] : List Stp) vals ([(w.heap.size + 1 + 1, 34, #[.int .i64 0, .int .i64 0]), (w.heap.size + 1, 34, #[.int .i64 b, .int .i64 d]), (w.heap.size, 30, #[.int .i64 r, .int .i64 c, .bool false, .bool true])] : List (Nat × TypeId × Array Value)) W)) (E := (fun _ _ => True)) [7, 8] [(2, Is (.pointer (some ⟨w.heap.size, 0, none⟩))), (3, Is (.pointer (some ⟨w.heap.size + 1, 0, none⟩))), (4, Is (.pointer (some ⟨w.heap.size + 1 + 1, 0, none⟩)))] [(6, Is (.pointer (some ⟨w.heap.size, 0, none⟩))), (7, Is (.int .i64 r)), (8, Is (.int .i64 p)), (9, Is (.pointer (some ⟨w.heap.size, 1, none⟩))), (10, Is (.int .i64 c)), (11, Is (.int .i64 q)), (12, Is (.agg #[.int .i64 p, .int .i64 q]))]
    [.op [2] none, .op [6] none, .op [7] none, .op [2] none, .op [9] none, .op [10] none, .op [8, 11] none, .phase 0 [] [], .phase 1 [12] [(0, 5)]] (by as_aux_lemma => kernel_rfl) ?_ ?_ ?_ ?_ ?_ ⟨stable_is _ _, stable_is _ _, stable_is _ _, stable_is _ _, stable_is _ _, stable_is _ _, stable_is _ _, stable_is _ _, stable_is _ _, stable_is _ _, trivial⟩ ?_ (HB.out.drew) ?_ ?_
  · as_aux_lemma => kernel_rfl
  · as_aux_lemma => kernel_rfl
  · as_aux_lemma => kernel_rfl
  · as_aux_lemma => kernel_rfl
  · as_aux_lemma => kernel_rfl
  · exact ⟨rfl, rfl, rfl, trivial⟩
  · refine ⟨?_, ?_, ?_, ?_, ?_, ?_, ?_, ?_, ?_, trivial⟩
    · as_aux_lemma =>
        intro vals a W hS hL
        have e2 : a.tmps.getD 2 undef = .pointer (some ⟨w.heap.size, 0, none⟩) := hL.1
        clear hL
        go_simp
        exact ⟨⟨fun d hd => by injection hd with hd; subst hd; rfl, fun h => by cases h⟩, hS, trivial⟩
    · as_aux_lemma =>
        intro vals a W hS hL
        have e6 : a.tmps.getD 6 undef = .pointer (some ⟨w.heap.size, 0, none⟩) := hL.1
        clear hL
        have kb : Bk W (w.heap.size) 30 #[.int .i64 r, .int .i64 c, .bool false, .bool true] := hS.bk 2 rfl rfl
        have f0 := kb.cell 0
        clear kb
        go_simp
        exact ⟨⟨fun d hd => by injection hd with hd; subst hd; rfl, fun h => by cases h⟩, hS, trivial⟩
    · as_aux_lemma =>
        intro vals a W hS hL
        have e7 : a.tmps.getD 7 undef = .int .i64 r := hL.1
        clear hL
        go_simp
        refine (quiet_b (H1.out _)).mono ?_
        rintro e W' ⟨rfl, hb⟩
        exact ⟨_, rfl, ⟨fun d hd => by injection hd with hd; subst hd; rfl, fun h => by cases h⟩, hS.call hb, trivial⟩
    · as_aux_lemma =>
        intro vals a W hS hL
        have e2 : a.tmps.getD 2 undef = .pointer (some ⟨w.heap.size, 0, none⟩) := hL.1
        clear hL
        go_simp
        exact ⟨⟨fun d hd => by injection hd with hd; subst hd; rfl, fun h => by cases h⟩, hS, trivial⟩
    · as_aux_lemma =>
        intro vals a W hS hL
        have e9 : a.tmps.getD 9 undef = .pointer (some ⟨w.heap.size, 1, none⟩) := hL.1
        clear hL
        have kb : Bk W (w.heap.size) 30 #[.int .i64 r, .int .i64 c, .bool false, .bool true] := hS.bk 2 rfl rfl
        have f1 := kb.cell 1
        clear kb
        go_simp
        exact ⟨⟨fun d hd => by injection hd with hd; subst hd; rfl, fun h => by cases h⟩, hS, trivial⟩
    · as_aux_lemma =>
        intro vals a W hS hL
        have e10 : a.tmps.getD 10 undef = .int .i64 c := hL.1
        clear hL
        go_simp
        refine (quiet_b (H2.out _)).mono ?_
        rintro e W' ⟨rfl, hb⟩
        exact ⟨_, rfl, ⟨fun d hd => by injection hd with hd; subst hd; rfl, fun h => by cases h⟩, hS.call hb, trivial⟩
    · as_aux_lemma =>
        intro vals a W hS hL
        have e8 : a.tmps.getD 8 undef = .int .i64 p := hL.1
        have e11 : a.tmps.getD 11 undef = .int .i64 q := hL.2.1
        clear hL
        rw [Array.getD_eq_getD_getElem?] at e8 e11
        go_simp
        exact ⟨⟨fun d hd => by injection hd with hd; subst hd; rfl, fun h => by cases h⟩, hS, trivial⟩
    · as_aux_lemma =>
        intro a W vals hv hS hL hp
        clear hL
        match vals, hv, hS with
        | [], _, hS =>
          have hS2 : SX w 3 ([.new 34 #[.int .i64 0, .int .i64 0], .put 0 #[.int .i64 p, .int .i64 q]] : List Stp) [] ([(w.heap.size + 1 + 1, 34, #[.int .i64 0, .int .i64 0]), (w.heap.size + 1, 34, #[.int .i64 b, .int .i64 d]), (w.heap.size, 30, #[.int .i64 r, .int .i64 c, .bool false, .bool true])] : List (Nat × TypeId × Array Value)) W := hS
          clear hS
          have hB0 := hS2
          have hB : SB w 3 ([(w.heap.size + 1 + 1, 34, #[.int .i64 0, .int .i64 0]), (w.heap.size + 1, 34, #[.int .i64 b, .int .i64 d]), (w.heap.size, 30, #[.int .i64 r, .int .i64 c, .bool false, .bool true])] : List (Nat × TypeId × Array Value)) W := hB0
          clear hB0
          have hF := hB.alloc 34 #[.int .i64 0, .int .i64 0]
          have hz := hB.size
          have hlt : ∀ qx ∈ ([(w.heap.size + 1 + 1, 34, #[.int .i64 0, .int .i64 0]), (w.heap.size + 1, 34, #[.int .i64 b, .int .i64 d]), (w.heap.size, 30, #[.int .i64 r, .int .i64 c, .bool false, .bool true])] : List (Nat × TypeId × Array Value)), qx.1 ≠ W.heap.size := fun qx hx => Nat.ne_of_lt (hB.bk qx hx).lt
          clear hB
          go_simp
          exact ⟨⟨_, rfl, hz, hlt, hF⟩, trivial, trivial⟩
    · as_aux_lemma =>
        intro a W vals hv hS hL hp
        have e12 : a.tmps.getD 12 undef = .agg #[.int .i64 p, .int .i64 q] := hL.1
        clear hL
        match vals, hv, hS with
        | [v0], _, hS =>
          have hS2 : SX w 3 ([.new 34 #[.int .i64 0, .int .i64 0], .put 0 #[.int .i64 p, .int .i64 q]] : List Stp) [v0] ([(w.heap.size + 1 + 1, 34, #[.int .i64 0, .int .i64 0]), (w.heap.size + 1, 34, #[.int .i64 b, .int .i64 d]), (w.heap.size, 30, #[.int .i64 r, .int .i64 c, .bool false, .bool true])] : List (Nat × TypeId × Array Value)) W := hS
          clear hS
          obtain ⟨g0, rfl, hg0, hn0, hB0⟩ := hS2
          have hB : SB w 3 ([(g0, 34, #[.int .i64 0, .int .i64 0]), (w.heap.size + 1 + 1, 34, #[.int .i64 0, .int .i64 0]), (w.heap.size + 1, 34, #[.int .i64 b, .int .i64 d]), (w.heap.size, 30, #[.int .i64 r, .int .i64 c, .bool false, .bool true])] : List (Nat × TypeId × Array Value)) W := hB0
          clear hB0
          simp only [List.mem_cons, List.not_mem_nil, or_false, forall_eq_or_imp, forall_eq] at hn0
          have e5 := hp.1 (by simp)
          simp only [List.getElem?_cons_zero, Option.some.injEq] at e5
          rw [Array.getD_eq_getD_getElem?] at e5
          have e5x := e5.symm
          clear e5
          rw [Array.getD_eq_getD_getElem?] at e12
          have kz := hB.box (i := 0) rfl
          have z0 := kz.frozen 0
          have q0 := kz.cell 0
          have z1 := kz.frozen 1
          have q1 := kz.cell 1
          have hge : w.heap.size ≤ (g0) := by omega
          have hne : ∀ qx ∈ butBox ([(g0, 34, #[.int .i64 0, .int .i64 0]), (w.heap.size + 1 + 1, 34, #[.int .i64 0, .int .i64 0]), (w.heap.size + 1, 34, #[.int .i64 b, .int .i64 d]), (w.heap.size, 30, #[.int .i64 r, .int .i64 c, .bool false, .bool true])] : List (Nat × TypeId × Array Value)) 0, qx.1 ≠ (g0) := by simp [butBox] <;> omega
          have hF := hB.put2 (i := 0) rfl hge hne (.int .i64 p : Value) (.int .i64 q : Value)
          clear kz hB hne hge
          go_simp
          exact ⟨⟨g0, rfl, hg0, by simp only [List.mem_cons, List.not_mem_nil, or_false, forall_eq_or_imp, forall_eq]; exact hn0, hF⟩, trivial, trivial⟩
  · intro a W' vals hd hsz hT hF hv hP hS
    obtain ⟨v0, v1, rfl⟩ : ∃ v0 v1, vals = [v0, v1] := by
      match vals, hv with
      | [v0, v1], _ => exact ⟨v0, v1, rfl⟩
    have hS2 : SX w 3 ([.new 34 #[.int .i64 0, .int .i64 0], .put 0 #[.int .i64 p, .int .i64 q]] : List Stp) [v0, v1] ([(w.heap.size + 1 + 1, 34, #[.int .i64 0, .int .i64 0]), (w.heap.size + 1, 34, #[.int .i64 b, .int .i64 d]), (w.heap.size, 30, #[.int .i64 r, .int .i64 c, .bool false, .bool true])] : List (Nat × TypeId × Array Value)) W' := hS
    clear hS
    obtain ⟨g0, hv0, hg0, hn0, hB0⟩ := hS2
    simp only [List.mem_cons, List.not_mem_nil, or_false, forall_eq_or_imp, forall_eq] at hn0
    have hB : SB w 3 ([(g0, 34, #[.int .i64 p, .int .i64 q]), (w.heap.size + 1 + 1, 34, #[.int .i64 0, .int .i64 0]), (w.heap.size + 1, 34, #[.int .i64 b, .int .i64 d]), (w.heap.size, 30, #[.int .i64 r, .int .i64 c, .bool false, .bool true])] : List (Nat × TypeId × Array Value)) W' := hB0
    clear hB0
    subst hv0
    have e5 : a.tmps.getD 5 undef = .pointer (some ⟨g0, 0, none⟩) := by
      have := hP 0 7 _ 5 rfl (by simp) rfl rfl
      simpa using this.symm
    have e2 : a.tmps.getD 2 undef = .pointer (some ⟨w.heap.size, 0, none⟩) := hT 2 (by simp)
    have e3 : a.tmps.getD 3 undef = .pointer (some ⟨w.heap.size + 1, 0, none⟩) := hT 3 (by simp)
    have e4 : a.tmps.getD 4 undef = .pointer (some ⟨w.heap.size + 1 + 1, 0, none⟩) := hT 4 (by simp)
    clear hT hF hP
    rw [act_lit 34 a hd hsz]
    simp only [List.range, List.range.loop, List.map, e2, e3, e4, e5]
    clear hd hsz e2 e3 e4 e5
    have HB3 := Lib.hid hB
    clear HB hB
    have kg := HB3.out.box (i := 0) rfl
    have cg0 := kg.cell 0
    have zg0 := kg.frozen 0
    have cg1 := kg.cell 1
    have zg1 := kg.frozen 1
    clear kg
    have ke := HB3.out.box (i := 1) rfl
    have ce0 := ke.cell 0
    have ze0 := ke.frozen 0
    have ce1 := ke.cell 1
    have ze1 := ke.frozen 1
    clear ke
    have kb := HB3.out.box (i := 2) rfl
    have cb0 := kb.cell 0
    have cb1 := kb.cell 1
    clear kb
    have kr := HB3.out.box (i := 3) rfl
    have cr0 := kr.cell 0
    have cr1 := kr.cell 1
    have cr2 := kr.cell 2
    have cr3 := kr.cell 3
    clear kr
    go_wp2_with fail
    go_still_tail 8, (by kernel_rfl)
    still_call (H4.out _)
    repeat still_step
    still_call (H6.out _)
    repeat still_step
    refine wpStill_nil ?_
    change wpList _ _ _ _ _ W'.drew
    clear cg0 zg0 cg1 zg1 ce0 ze0 ce1 ze1 cb0 cb1 cr0 cr1 cr2 cr3
    have HB4 := Lib.hid HB3.out.drew
    clear HB3
    have HB3 := HB4
    clear HB4
    generalize W'.drew = U1 at *
    have kg := HB3.out.box (i := 0) rfl
    have cg0 := kg.cell 0
    have zg0 := kg.frozen 0
    have cg1 := kg.cell 1
    have zg1 := kg.frozen 1
    clear kg
    have ke := HB3.out.box (i := 1) rfl
    have ce0 := ke.cell 0
    have ze0 := ke.frozen 0
    have ce1 := ke.cell 1
    have ze1 := ke.frozen 1
    clear ke
    have kb := HB3.out.box (i := 2) rfl
    have cb0 := kb.cell 0
    have cb1 := kb.cell 1
    clear kb
    have kr := HB3.out.box (i := 3) rfl
    have cr0 := kr.cell 0
    have cr1 := kr.cell 1
    have cr2 := kr.cell 2
    have cr3 := kr.cell 3
    clear kr
    go_wp2
    have hF0 := HB3.out.put1 (g := g0) (i := 0) rfl (by omega) (by simp [butBox]; omega) 1 (.int .i64 z2)
    have hF := hF0.put2 (g := w.heap.size + 1 + 1) (i := 1) rfl (by omega) (by simp [butBox, setBox]; omega) (.int .i64 p) (.int .i64 z2)
    have kz := hF.box (i := 1) rfl
    have r0 := kz.cell 0
    have r1 := kz.cell 1
    clear cg0 zg0 cg1 zg1 ce0 ze0 ce1 ze1 cb0 cb1 cr0 cr1 cr2 cr3
    exact bodyPost_ret (v := .agg #[.int .i64 p, .int .i64 z2]) (by simp [results, Tryd.results17, go_sem, r0, r1]) rfl ⟨rfl, hF.bel⟩

set_option maxRecDepth 20000 in
set_option maxHeartbeats 2000000 in
theorem bAt_False_False {w : World} (r c b d : Int) :
    Calls Tryd.prog 17 #[.agg #[.int .i64 r, .int .i64 c, .bool false, .bool false], .agg #[.int .i64 b, .int .i64 d]] w fun e w' => e = .returned (.agg #[.int .i64 (fo r b false 65536), .int .i64 (fo c d false 256)]) ∧ Below w.heap.size w w' := by
  obtain ⟨p, hp⟩ : ∃ p, r % 65536 = p := ⟨_, rfl⟩
  obtain ⟨q, hq⟩ : ∃ q, c % 256 = q := ⟨_, rfl⟩
  obtain ⟨s, hs⟩ : ∃ s, b % 65536 = s := ⟨_, rfl⟩
  obtain ⟨u, hu⟩ : ∃ u, d % 256 = u := ⟨_, rfl⟩
  obtain ⟨z1, hz1⟩ : ∃ z, (p + s) % 65536 = z := ⟨_, rfl⟩
  obtain ⟨z2, hz2⟩ : ∃ z, (q + u) % 256 = z := ⟨_, rfl⟩
  have bp := Int.emod_nonneg r (show (65536 : Int) ≠ 0 by decide)
  have bp2 := Int.emod_lt_of_pos r (show (0 : Int) < 65536 by decide)
  have bq := Int.emod_nonneg c (show (256 : Int) ≠ 0 by decide)
  have bq2 := Int.emod_lt_of_pos c (show (0 : Int) < 256 by decide)
  have bs := Int.emod_nonneg b (show (65536 : Int) ≠ 0 by decide)
  have bs2 := Int.emod_lt_of_pos b (show (0 : Int) < 65536 by decide)
  have bu := Int.emod_nonneg d (show (256 : Int) ≠ 0 by decide)
  have bu2 := Int.emod_lt_of_pos d (show (0 : Int) < 256 by decide)
  rw [show fo r b false 65536 = p by exact hp, show fo c d false 256 = q by exact hq]
  have H1 : Hid (∀ W : World, Calls Tryd.prog 34 #[.int .i64 r, .int .i64 65536] W fun e w' => e = .returned (.int .i64 p) ∧ w' = W) := Lib.hid (fun W => by
    have := mod_s (w := W) r 65536 (by decide) (by decide)
    rwa [hp] at this)
  have H2 : Hid (∀ W : World, Calls Tryd.prog 34 #[.int .i64 c, .int .i64 256] W fun e w' => e = .returned (.int .i64 q) ∧ w' = W) := Lib.hid (fun W => by
    have := mod_s (w := W) c 256 (by decide) (by decide)
    rwa [hq] at this)
  have H3 : Hid (∀ W : World, Calls Tryd.prog 34 #[.int .i64 b, .int .i64 65536] W fun e w' => e = .returned (.int .i64 s) ∧ w' = W) := Lib.hid (fun W => by
    have := mod_s (w := W) b 65536 (by decide) (by decide)
    rwa [hs] at this)
  have H4 : Hid (∀ W : World, Calls Tryd.prog 34 #[.int .i64 d, .int .i64 256] W fun e w' => e = .returned (.int .i64 u) ∧ w' = W) := Lib.hid (fun W => by
    have := mod_s (w := W) d 256 (by decide) (by decide)
    rwa [hu] at this)
  have H5 : Hid (∀ W : World, Calls Tryd.prog 34 #[.int .i64 (p + s), .int .i64 65536] W fun e w' => e = .returned (.int .i64 z1) ∧ w' = W) := Lib.hid (fun W => by
    have := mod_s (w := W) (p + s) 65536 (by decide) (by decide)
    rwa [hz1] at this)
  have H6 : Hid (∀ W : World, Calls Tryd.prog 34 #[.int .i64 (q + u), .int .i64 256] W fun e w' => e = .returned (.int .i64 z2) ∧ w' = W) := Lib.hid (fun W => by
    have := mod_s (w := W) (q + u) 256 (by decide) (by decide)
    rwa [hz2] at this)
  rw [hp] at bp bp2
  rw [hq] at bq bq2
  rw [hs] at bs bs2
  rw [hu] at bu bu2
  clear hp hq hs hu hz1 hz2
  have hw1 : IntKind.i64.wrap (p + s) = p + s := IntWalk.i64_in _ (by omega)
  have hw2 : IntKind.i64.wrap (q + u) = q + u := IntWalk.i64_in _ (by omega)
  clear bp bp2 bq bq2 bs bs2 bu bu2
  have HB : Hid (SB w 3 ([(w.heap.size + 1 + 1, 34, #[.int .i64 0, .int .i64 0]), (w.heap.size + 1, 34, #[.int .i64 b, .int .i64 d]), (w.heap.size, 30, #[.int .i64 r, .int .i64 c, .bool false, .bool false])] : List (Nat × TypeId × Array Value)) (((w.alloc (.cells #[.int .i64 r, .int .i64 c, .bool false, .bool false] 30)).alloc (.cells #[.int .i64 b, .int .i64 d] 34)).alloc (.cells #[.int .i64 0, .int .i64 0] 34))) := Lib.hid (((sb1 w 30 #[.int .i64 r, .int .i64 c, .bool false, .bool false]).push (by simp) 34 #[.int .i64 b, .int .i64 d]).push (by simp) 34 #[.int .i64 0, .int .i64 0])
  go_enter Tryd.func17, Tryd.ntmps17
  go_wp2_with fail
  refine wp_region_phases (S := (fun vals W => SX w 3 ([.new 34 #[.int .i64 0, .int .i64 0], .put 0 #[.int .i64 p, .int .i64 q]] : List Stp) vals ([(w.heap.size + 1 + 1, 34, #[.int .i64 0, .int .i64 0]), (w.heap.size + 1, 34, #[.int .i64 b, .int .i64 d]), (w.heap.size, 30, #[.int .i64 r, .int .i64 c, .bool false, .bool false])] : List (Nat × TypeId × Array Value)) W)) (E := (fun _ _ => True)) [7, 8] [(2, Is (.pointer (some ⟨w.heap.size, 0, none⟩))), (3, Is (.pointer (some ⟨w.heap.size + 1, 0, none⟩))), (4, Is (.pointer (some ⟨w.heap.size + 1 + 1, 0, none⟩)))] [(6, Is (.pointer (some ⟨w.heap.size, 0, none⟩))), (7, Is (.int .i64 r)), (8, Is (.int .i64 p)), (9, Is (.pointer (some ⟨w.heap.size, 1, none⟩))), (10, Is (.int .i64 c)), (11, Is (.int .i64 q)), (12, Is (.agg #[.int .i64 p, .int .i64 q]))]
    [.op [2] none, .op [6] none, .op [7] none, .op [2] none, .op [9] none, .op [10] none, .op [8, 11] none, .phase 0 [] [], .phase 1 [12] [(0, 5)]] (by as_aux_lemma => kernel_rfl) ?_ ?_ ?_ ?_ ?_ ⟨stable_is _ _, stable_is _ _, stable_is _ _, stable_is _ _, stable_is _ _, stable_is _ _, stable_is _ _, stable_is _ _, stable_is _ _, stable_is _ _, trivial⟩ ?_ (HB.out.drew) ?_ ?_
  · as_aux_lemma => kernel_rfl
  · as_aux_lemma => kernel_rfl
  · as_aux_lemma => kernel_rfl
  · as_aux_lemma => kernel_rfl
  · as_aux_lemma => kernel_rfl
  · exact ⟨rfl, rfl, rfl, trivial⟩
  · refine ⟨?_, ?_, ?_, ?_, ?_, ?_, ?_, ?_, ?_, trivial⟩
    · as_aux_lemma =>
        intro vals a W hS hL
        have e2 : a.tmps.getD 2 undef = .pointer (some ⟨w.heap.size, 0, none⟩) := hL.1
        clear hL
        go_simp
        exact ⟨⟨fun d hd => by injection hd with hd; subst hd; rfl, fun h => by cases h⟩, hS, trivial⟩
    · as_aux_lemma =>
        intro vals a W hS hL
        have e6 : a.tmps.getD 6 undef = .pointer (some ⟨w.heap.size, 0, none⟩) := hL.1
        clear hL
        have kb : Bk W (w.heap.size) 30 #[.int .i64 r, .int .i64 c, .bool false, .bool false] := hS.bk 2 rfl rfl
        have f0 := kb.cell 0
        clear kb
        go_simp
        exact ⟨⟨fun d hd => by injection hd with hd; subst hd; rfl, fun h => by cases h⟩, hS, trivial⟩
    · as_aux_lemma =>
        intro vals a W hS hL
        have e7 : a.tmps.getD 7 undef = .int .i64 r := hL.1
        clear hL
        go_simp
        refine (quiet_b (H1.out _)).mono ?_
        rintro e W' ⟨rfl, hb⟩
        exact ⟨_, rfl, ⟨fun d hd => by injection hd with hd; subst hd; rfl, fun h => by cases h⟩, hS.call hb, trivial⟩
    · as_aux_lemma =>
        intro vals a W hS hL
        have e2 : a.tmps.getD 2 undef = .pointer (some ⟨w.heap.size, 0, none⟩) := hL.1
        clear hL
        go_simp
        exact ⟨⟨fun d hd => by injection hd with hd; subst hd; rfl, fun h => by cases h⟩, hS, trivial⟩
    · as_aux_lemma =>
        intro vals a W hS hL
        have e9 : a.tmps.getD 9 undef = .pointer (some ⟨w.heap.size, 1, none⟩) := hL.1
        clear hL
        have kb : Bk W (w.heap.size) 30 #[.int .i64 r, .int .i64 c, .bool false, .bool false] := hS.bk 2 rfl rfl
        have f1 := kb.cell 1
        clear kb
        go_simp
        exact ⟨⟨fun d hd => by injection hd with hd; subst hd; rfl, fun h => by cases h⟩, hS, trivial⟩
    · as_aux_lemma =>
        intro vals a W hS hL
        have e10 : a.tmps.getD 10 undef = .int .i64 c := hL.1
        clear hL
        go_simp
        refine (quiet_b (H2.out _)).mono ?_
        rintro e W' ⟨rfl, hb⟩
        exact ⟨_, rfl, ⟨fun d hd => by injection hd with hd; subst hd; rfl, fun h => by cases h⟩, hS.call hb, trivial⟩
    · as_aux_lemma =>
        intro vals a W hS hL
        have e8 : a.tmps.getD 8 undef = .int .i64 p := hL.1
        have e11 : a.tmps.getD 11 undef = .int .i64 q := hL.2.1
        clear hL
        rw [Array.getD_eq_getD_getElem?] at e8 e11
        go_simp
        exact ⟨⟨fun d hd => by injection hd with hd; subst hd; rfl, fun h => by cases h⟩, hS, trivial⟩
    · as_aux_lemma =>
        intro a W vals hv hS hL hp
        clear hL
        match vals, hv, hS with
        | [], _, hS =>
          have hS2 : SX w 3 ([.new 34 #[.int .i64 0, .int .i64 0], .put 0 #[.int .i64 p, .int .i64 q]] : List Stp) [] ([(w.heap.size + 1 + 1, 34, #[.int .i64 0, .int .i64 0]), (w.heap.size + 1, 34, #[.int .i64 b, .int .i64 d]), (w.heap.size, 30, #[.int .i64 r, .int .i64 c, .bool false, .bool false])] : List (Nat × TypeId × Array Value)) W := hS
          clear hS
          have hB0 := hS2
          have hB : SB w 3 ([(w.heap.size + 1 + 1, 34, #[.int .i64 0, .int .i64 0]), (w.heap.size + 1, 34, #[.int .i64 b, .int .i64 d]), (w.heap.size, 30, #[.int .i64 r, .int .i64 c, .bool false, .bool false])] : List (Nat × TypeId × Array Value)) W := hB0
          clear hB0
          have hF := hB.alloc 34 #[.int .i64 0, .int .i64 0]
          have hz := hB.size
          have hlt : ∀ qx ∈ ([(w.heap.size + 1 + 1, 34, #[.int .i64 0, .int .i64 0]), (w.heap.size + 1, 34, #[.int .i64 b, .int .i64 d]), (w.heap.size, 30, #[.int .i64 r, .int .i64 c, .bool false, .bool false])] : List (Nat × TypeId × Array Value)), qx.1 ≠ W.heap.size := fun qx hx => Nat.ne_of_lt (hB.bk qx hx).lt
          clear hB
          go_simp
          exact ⟨⟨_, rfl, hz, hlt, hF⟩, trivial, trivial⟩
    · as_aux_lemma =>
        intro a W vals hv hS hL hp
        have e12 : a.tmps.getD 12 undef = .agg #[.int .i64 p, .int .i64 q] := hL.1
        clear hL
        match vals, hv, hS with
        | [v0], _, hS =>
          have hS2 : SX w 3 ([.new 34 #[.int .i64 0, .int .i64 0], .put 0 #[.int .i64 p, .int .i64 q]] : List Stp) [v0] ([(w.heap.size + 1 + 1, 34, #[.int .i64 0, .int .i64 0]), (w.heap.size + 1, 34, #[.int .i64 b, .int .i64 d]), (w.heap.size, 30, #[.int .i64 r, .int .i64 c, .bool false, .bool false])] : List (Nat × TypeId × Array Value)) W := hS
          clear hS
          obtain ⟨g0, rfl, hg0, hn0, hB0⟩ := hS2
          have hB : SB w 3 ([(g0, 34, #[.int .i64 0, .int .i64 0]), (w.heap.size + 1 + 1, 34, #[.int .i64 0, .int .i64 0]), (w.heap.size + 1, 34, #[.int .i64 b, .int .i64 d]), (w.heap.size, 30, #[.int .i64 r, .int .i64 c, .bool false, .bool false])] : List (Nat × TypeId × Array Value)) W := hB0
          clear hB0
          simp only [List.mem_cons, List.not_mem_nil, or_false, forall_eq_or_imp, forall_eq] at hn0
          have e5 := hp.1 (by simp)
          simp only [List.getElem?_cons_zero, Option.some.injEq] at e5
          rw [Array.getD_eq_getD_getElem?] at e5
          have e5x := e5.symm
          clear e5
          rw [Array.getD_eq_getD_getElem?] at e12
          have kz := hB.box (i := 0) rfl
          have z0 := kz.frozen 0
          have q0 := kz.cell 0
          have z1 := kz.frozen 1
          have q1 := kz.cell 1
          have hge : w.heap.size ≤ (g0) := by omega
          have hne : ∀ qx ∈ butBox ([(g0, 34, #[.int .i64 0, .int .i64 0]), (w.heap.size + 1 + 1, 34, #[.int .i64 0, .int .i64 0]), (w.heap.size + 1, 34, #[.int .i64 b, .int .i64 d]), (w.heap.size, 30, #[.int .i64 r, .int .i64 c, .bool false, .bool false])] : List (Nat × TypeId × Array Value)) 0, qx.1 ≠ (g0) := by simp [butBox] <;> omega
          have hF := hB.put2 (i := 0) rfl hge hne (.int .i64 p : Value) (.int .i64 q : Value)
          clear kz hB hne hge
          go_simp
          exact ⟨⟨g0, rfl, hg0, by simp only [List.mem_cons, List.not_mem_nil, or_false, forall_eq_or_imp, forall_eq]; exact hn0, hF⟩, trivial, trivial⟩
  · intro a W' vals hd hsz hT hF hv hP hS
    obtain ⟨v0, v1, rfl⟩ : ∃ v0 v1, vals = [v0, v1] := by
      match vals, hv with
      | [v0, v1], _ => exact ⟨v0, v1, rfl⟩
    have hS2 : SX w 3 ([.new 34 #[.int .i64 0, .int .i64 0], .put 0 #[.int .i64 p, .int .i64 q]] : List Stp) [v0, v1] ([(w.heap.size + 1 + 1, 34, #[.int .i64 0, .int .i64 0]), (w.heap.size + 1, 34, #[.int .i64 b, .int .i64 d]), (w.heap.size, 30, #[.int .i64 r, .int .i64 c, .bool false, .bool false])] : List (Nat × TypeId × Array Value)) W' := hS
    clear hS
    obtain ⟨g0, hv0, hg0, hn0, hB0⟩ := hS2
    simp only [List.mem_cons, List.not_mem_nil, or_false, forall_eq_or_imp, forall_eq] at hn0
    have hB : SB w 3 ([(g0, 34, #[.int .i64 p, .int .i64 q]), (w.heap.size + 1 + 1, 34, #[.int .i64 0, .int .i64 0]), (w.heap.size + 1, 34, #[.int .i64 b, .int .i64 d]), (w.heap.size, 30, #[.int .i64 r, .int .i64 c, .bool false, .bool false])] : List (Nat × TypeId × Array Value)) W' := hB0
    clear hB0
    subst hv0
    have e5 : a.tmps.getD 5 undef = .pointer (some ⟨g0, 0, none⟩) := by
      have := hP 0 7 _ 5 rfl (by simp) rfl rfl
      simpa using this.symm
    have e2 : a.tmps.getD 2 undef = .pointer (some ⟨w.heap.size, 0, none⟩) := hT 2 (by simp)
    have e3 : a.tmps.getD 3 undef = .pointer (some ⟨w.heap.size + 1, 0, none⟩) := hT 3 (by simp)
    have e4 : a.tmps.getD 4 undef = .pointer (some ⟨w.heap.size + 1 + 1, 0, none⟩) := hT 4 (by simp)
    clear hT hF hP
    rw [act_lit 34 a hd hsz]
    simp only [List.range, List.range.loop, List.map, e2, e3, e4, e5]
    clear hd hsz e2 e3 e4 e5
    have HB3 := Lib.hid hB
    clear HB hB
    have kg := HB3.out.box (i := 0) rfl
    have cg0 := kg.cell 0
    have zg0 := kg.frozen 0
    have cg1 := kg.cell 1
    have zg1 := kg.frozen 1
    clear kg
    have ke := HB3.out.box (i := 1) rfl
    have ce0 := ke.cell 0
    have ze0 := ke.frozen 0
    have ce1 := ke.cell 1
    have ze1 := ke.frozen 1
    clear ke
    have kb := HB3.out.box (i := 2) rfl
    have cb0 := kb.cell 0
    have cb1 := kb.cell 1
    clear kb
    have kr := HB3.out.box (i := 3) rfl
    have cr0 := kr.cell 0
    have cr1 := kr.cell 1
    have cr2 := kr.cell 2
    have cr3 := kr.cell 3
    clear kr
    go_wp2
    have hF := HB3.out.put2 (g := w.heap.size + 1 + 1) (i := 1) rfl (by omega) (by simp [butBox]; omega) (.int .i64 p) (.int .i64 q)
    have kz := hF.box (i := 1) rfl
    have r0 := kz.cell 0
    have r1 := kz.cell 1
    clear cg0 zg0 cg1 zg1 ce0 ze0 ce1 ze1 cb0 cb1 cr0 cr1 cr2 cr3
    exact bodyPost_ret (v := .agg #[.int .i64 p, .int .i64 q]) (by simp [results, Tryd.results17, go_sem, r0, r1]) rfl ⟨rfl, hF.bel⟩

set_option maxRecDepth 20000 in
set_option maxHeartbeats 2000000 in
theorem bRel_True_True {w : World} (r c b d : Int) :
    Calls Tryd.prog 19 #[.agg #[.int .i64 r, .int .i64 c], .agg #[.int .i64 b, .int .i64 d], .bool true, .bool true] w fun e w' => e = .returned (.agg #[.int .i64 (ba r b true 65536), .int .i64 (ba c d true 256), .bool true, .bool true]) ∧ Below w.heap.size w w' := by
  obtain ⟨p, hp⟩ : ∃ p, r % 65536 = p := ⟨_, rfl⟩
  obtain ⟨q, hq⟩ : ∃ q, c % 256 = q := ⟨_, rfl⟩
  obtain ⟨s, hs⟩ : ∃ s, b % 65536 = s := ⟨_, rfl⟩
  obtain ⟨u, hu⟩ : ∃ u, d % 256 = u := ⟨_, rfl⟩
  obtain ⟨z1, hz1⟩ : ∃ z, (p - s) % 65536 = z := ⟨_, rfl⟩
  obtain ⟨z2, hz2⟩ : ∃ z, (q - u) % 256 = z := ⟨_, rfl⟩
  have bp := Int.emod_nonneg r (show (65536 : Int) ≠ 0 by decide)
  have bp2 := Int.emod_lt_of_pos r (show (0 : Int) < 65536 by decide)
  have bq := Int.emod_nonneg c (show (256 : Int) ≠ 0 by decide)
  have bq2 := Int.emod_lt_of_pos c (show (0 : Int) < 256 by decide)
  have bs := Int.emod_nonneg b (show (65536 : Int) ≠ 0 by decide)
  have bs2 := Int.emod_lt_of_pos b (show (0 : Int) < 65536 by decide)
  have bu := Int.emod_nonneg d (show (256 : Int) ≠ 0 by decide)
  have bu2 := Int.emod_lt_of_pos d (show (0 : Int) < 256 by decide)
  rw [show ba r b true 65536 = z1 by rw [← hz1, ← hp, ← hs]; rfl, show ba c d true 256 = z2 by rw [← hz2, ← hq, ← hu]; rfl]
  have H1 : Hid (∀ W : World, Calls Tryd.prog 34 #[.int .i64 r, .int .i64 65536] W fun e w' => e = .returned (.int .i64 p) ∧ w' = W) := Lib.hid (fun W => by
    have := mod_s (w := W) r 65536 (by decide) (by decide)
    rwa [hp] at this)
  have H2 : Hid (∀ W : World, Calls Tryd.prog 34 #[.int .i64 c, .int .i64 256] W fun e w' => e = .returned (.int .i64 q) ∧ w' = W) := Lib.hid (fun W => by
    have := mod_s (w := W) c 256 (by decide) (by decide)
    rwa [hq] at this)
  have H3 : Hid (∀ W : World, Calls Tryd.prog 34 #[.int .i64 b, .int .i64 65536] W fun e w' => e = .returned (.int .i64 s) ∧ w' = W) := Lib.hid (fun W => by
    have := mod_s (w := W) b 65536 (by decide) (by decide)
    rwa [hs] at this)
  have H4 : Hid (∀ W : World, Calls Tryd.prog 34 #[.int .i64 d, .int .i64 256] W fun e w' => e = .returned (.int .i64 u) ∧ w' = W) := Lib.hid (fun W => by
    have := mod_s (w := W) d 256 (by decide) (by decide)
    rwa [hu] at this)
  have H5 : Hid (∀ W : World, Calls Tryd.prog 34 #[.int .i64 (p - s), .int .i64 65536] W fun e w' => e = .returned (.int .i64 z1) ∧ w' = W) := Lib.hid (fun W => by
    have := mod_s (w := W) (p - s) 65536 (by decide) (by decide)
    rwa [hz1] at this)
  have H6 : Hid (∀ W : World, Calls Tryd.prog 34 #[.int .i64 (q - u), .int .i64 256] W fun e w' => e = .returned (.int .i64 z2) ∧ w' = W) := Lib.hid (fun W => by
    have := mod_s (w := W) (q - u) 256 (by decide) (by decide)
    rwa [hz2] at this)
  rw [hp] at bp bp2
  rw [hq] at bq bq2
  rw [hs] at bs bs2
  rw [hu] at bu bu2
  clear hp hq hs hu hz1 hz2
  have hw1 : IntKind.i64.wrap (p - s) = p - s := IntWalk.i64_in _ (by omega)
  have hw2 : IntKind.i64.wrap (q - u) = q - u := IntWalk.i64_in _ (by omega)
  clear bp bp2 bq bq2 bs bs2 bu bu2
  have HB : Hid (SB w 3 ([(w.heap.size + 1 + 1, 30, #[.int .i64 0, .int .i64 0, .bool false, .bool false]), (w.heap.size + 1, 34, #[.int .i64 b, .int .i64 d]), (w.heap.size, 34, #[.int .i64 r, .int .i64 c])] : List (Nat × TypeId × Array Value)) (((w.alloc (.cells #[.int .i64 r, .int .i64 c] 34)).alloc (.cells #[.int .i64 b, .int .i64 d] 34)).alloc (.cells #[.int .i64 0, .int .i64 0, .bool false, .bool false] 30))) := Lib.hid (((sb1 w 34 #[.int .i64 r, .int .i64 c]).push (by simp) 34 #[.int .i64 b, .int .i64 d]).push (by simp) 30 #[.int .i64 0, .int .i64 0, .bool false, .bool false])
  go_enter Tryd.func19, Tryd.ntmps19
  go_wp2_with fail
  refine wp_region_phases (S := (fun vals W => SX w 3 ([.new 30 #[.int .i64 0, .int .i64 0, .bool false, .bool false], .put 0 #[.int .i64 p, .int .i64 q, .bool true, .bool true]] : List Stp) vals ([(w.heap.size + 1 + 1, 30, #[.int .i64 0, .int .i64 0, .bool false, .bool false]), (w.heap.size + 1, 34, #[.int .i64 b, .int .i64 d]), (w.heap.size, 34, #[.int .i64 r, .int .i64 c])] : List (Nat × TypeId × Array Value)) W)) (E := (fun _ _ => True)) [9, 10] [(2, Is (.bool true)), (3, Is (.bool true)), (4, Is (.pointer (some ⟨w.heap.size, 0, none⟩))), (5, Is (.pointer (some ⟨w.heap.size + 1, 0, none⟩))), (8, Is (.pointer (some ⟨w.heap.size + 1 + 1, 0, none⟩)))] [(10, Is (.pointer (some ⟨w.heap.size, 0, none⟩))), (11, Is (.int .i64 r)), (12, Is (.int .i64 p)), (13, Is (.pointer (some ⟨w.heap.size, 1, none⟩))), (14, Is (.int .i64 c)), (15, Is (.int .i64 q)), (16, Is (.bool true)), (17, Is (.bool true)), (18, Is (.agg #[.int .i64 p, .int .i64 q, .bool true, .bool true]))]
    [.op [4] none, .op [10] none, .op [11] none, .op [4] none, .op [13] none, .op [14] none, .op [2] none, .op [3] none, .op [12, 15, 16, 17] none, .phase 0 [] [], .phase 1 [18] [(0, 9)]] (by as_aux_lemma => kernel_rfl) ?_ ?_ ?_ ?_ ?_ ⟨stable_is _ _, stable_is _ _, stable_is _ _, stable_is _ _, stable_is _ _, stable_is _ _, stable_is _ _, stable_is _ _, stable_is _ _, stable_is _ _, stable_is _ _, stable_is _ _, stable_is _ _, stable_is _ _, trivial⟩ ?_ (HB.out.drew) ?_ ?_
  · as_aux_lemma => kernel_rfl
  · as_aux_lemma => kernel_rfl
  · as_aux_lemma => kernel_rfl
  · as_aux_lemma => kernel_rfl
  · as_aux_lemma => kernel_rfl
  · exact ⟨rfl, rfl, rfl, rfl, rfl, trivial⟩
  · refine ⟨?_, ?_, ?_, ?_, ?_, ?_, ?_, ?_, ?_, ?_, ?_, trivial⟩
    · as_aux_lemma =>
        intro vals a W hS hL
        have e4 : a.tmps.getD 4 undef = .pointer (some ⟨w.heap.size, 0, none⟩) := hL.1
        clear hL
        go_simp
        exact ⟨⟨fun d hd => by injection hd with hd; subst hd; rfl, fun h => by cases h⟩, hS, trivial⟩
    · as_aux_lemma =>
        intro vals a W hS hL
        have e10 : a.tmps.getD 10 undef = .pointer (some ⟨w.heap.size, 0, none⟩) := hL.1
        clear hL
        have kb : Bk W (w.heap.size) 34 #[.int .i64 r, .int .i64 c] := hS.bk 2 rfl rfl
        have f0 := kb.cell 0
        clear kb
        go_simp
        exact ⟨⟨fun d hd => by injection hd with hd; subst hd; rfl, fun h => by cases h⟩, hS, trivial⟩
    · as_aux_lemma =>
        intro vals a W hS hL
        have e11 : a.tmps.getD 11 undef = .int .i64 r := hL.1
        clear hL
        go_simp
        refine (quiet_b (H1.out _)).mono ?_
        rintro e W' ⟨rfl, hb⟩
        exact ⟨_, rfl, ⟨fun d hd => by injection hd with hd; subst hd; rfl, fun h => by cases h⟩, hS.call hb, trivial⟩
    · as_aux_lemma =>
        intro vals a W hS hL
        have e4 : a.tmps.getD 4 undef = .pointer (some ⟨w.heap.size, 0, none⟩) := hL.1
        clear hL
        go_simp
        exact ⟨⟨fun d hd => by injection hd with hd; subst hd; rfl, fun h => by cases h⟩, hS, trivial⟩
    · as_aux_lemma =>
        intro vals a W hS hL
        have e13 : a.tmps.getD 13 undef = .pointer (some ⟨w.heap.size, 1, none⟩) := hL.1
        clear hL
        have kb : Bk W (w.heap.size) 34 #[.int .i64 r, .int .i64 c] := hS.bk 2 rfl rfl
        have f1 := kb.cell 1
        clear kb
        go_simp
        exact ⟨⟨fun d hd => by injection hd with hd; subst hd; rfl, fun h => by cases h⟩, hS, trivial⟩
    · as_aux_lemma =>
        intro vals a W hS hL
        have e14 : a.tmps.getD 14 undef = .int .i64 c := hL.1
        clear hL
        go_simp
        refine (quiet_b (H2.out _)).mono ?_
        rintro e W' ⟨rfl, hb⟩
        exact ⟨_, rfl, ⟨fun d hd => by injection hd with hd; subst hd; rfl, fun h => by cases h⟩, hS.call hb, trivial⟩
    · as_aux_lemma =>
        intro vals a W hS hL
        have e2 : a.tmps.getD 2 undef = .bool true := hL.1
        clear hL
        go_simp
        exact ⟨⟨fun d hd => by injection hd with hd; subst hd; rfl, fun h => by cases h⟩, hS, trivial⟩
    · as_aux_lemma =>
        intro vals a W hS hL
        have e3 : a.tmps.getD 3 undef = .bool true := hL.1
        clear hL
        go_simp
        exact ⟨⟨fun d hd => by injection hd with hd; subst hd; rfl, fun h => by cases h⟩, hS, trivial⟩
    · as_aux_lemma =>
        intro vals a W hS hL
        have e12 : a.tmps.getD 12 undef = .int .i64 p := hL.1
        have e15 : a.tmps.getD 15 undef = .int .i64 q := hL.2.1
        have e16 : a.tmps.getD 16 undef = .bool true := hL.2.2.1
        have e17 : a.tmps.getD 17 undef = .bool true := hL.2.2.2.1
        clear hL
        rw [Array.getD_eq_getD_getElem?] at e12 e15 e16 e17
        go_simp
        exact ⟨⟨fun d hd => by injection hd with hd; subst hd; rfl, fun h => by cases h⟩, hS, trivial⟩
    · as_aux_lemma =>
        intro a W vals hv hS hL hp
        clear hL
        match vals, hv, hS with
        | [], _, hS =>
          have hS2 : SX w 3 ([.new 30 #[.int .i64 0, .int .i64 0, .bool false, .bool false], .put 0 #[.int .i64 p, .int .i64 q, .bool true, .bool true]] : List Stp) [] ([(w.heap.size + 1 + 1, 30, #[.int .i64 0, .int .i64 0, .bool false, .bool false]), (w.heap.size + 1, 34, #[.int .i64 b, .int .i64 d]), (w.heap.size, 34, #[.int .i64 r, .int .i64 c])] : List (Nat × TypeId × Array Value)) W := hS
          clear hS
          have hB0 := hS2
          have hB : SB w 3 ([(w.heap.size + 1 + 1, 30, #[.int .i64 0, .int .i64 0, .bool false, .bool false]), (w.heap.size + 1, 34, #[.int .i64 b, .int .i64 d]), (w.heap.size, 34, #[.int .i64 r, .int .i64 c])] : List (Nat × TypeId × Array Value)) W := hB0
          clear hB0
          have hF := hB.alloc 30 #[.int .i64 0, .int .i64 0, .bool false, .bool false]
          have hz := hB.size
          have hlt : ∀ qx ∈ ([(w.heap.size + 1 + 1, 30, #[.int .i64 0, .int .i64 0, .bool false, .bool false]), (w.heap.size + 1, 34, #[.int .i64 b, .int .i64 d]), (w.heap.size, 34, #[.int .i64 r, .int .i64 c])] : List (Nat × TypeId × Array Value)), qx.1 ≠ W.heap.size := fun qx hx => Nat.ne_of_lt (hB.bk qx hx).lt
          clear hB
          go_simp
          exact ⟨⟨_, rfl, hz, hlt, hF⟩, trivial, trivial⟩
    · as_aux_lemma =>
        intro a W vals hv hS hL hp
        have e18 : a.tmps.getD 18 undef = .agg #[.int .i64 p, .int .i64 q, .bool true, .bool true] := hL.1
        clear hL
        match vals, hv, hS with
        | [v0], _, hS =>
          have hS2 : SX w 3 ([.new 30 #[.int .i64 0, .int .i64 0, .bool false, .bool false], .put 0 #[.int .i64 p, .int .i64 q, .bool true, .bool true]] : List Stp) [v0] ([(w.heap.size + 1 + 1, 30, #[.int .i64 0, .int .i64 0, .bool false, .bool false]), (w.heap.size + 1, 34, #[.int .i64 b, .int .i64 d]), (w.heap.size, 34, #[.int .i64 r, .int .i64 c])] : List (Nat × TypeId × Array Value)) W := hS
          clear hS
          obtain ⟨g0, rfl, hg0, hn0, hB0⟩ := hS2
          have hB : SB w 3 ([(g0, 30, #[.int .i64 0, .int .i64 0, .bool false, .bool false]), (w.heap.size + 1 + 1, 30, #[.int .i64 0, .int .i64 0, .bool false, .bool false]), (w.heap.size + 1, 34, #[.int .i64 b, .int .i64 d]), (w.heap.size, 34, #[.int .i64 r, .int .i64 c])] : List (Nat × TypeId × Array Value)) W := hB0
          clear hB0
          simp only [List.mem_cons, List.not_mem_nil, or_false, forall_eq_or_imp, forall_eq] at hn0
          have e9 := hp.1 (by simp)
          simp only [List.getElem?_cons_zero, Option.some.injEq] at e9
          rw [Array.getD_eq_getD_getElem?] at e9
          have e9x := e9.symm
          clear e9
          rw [Array.getD_eq_getD_getElem?] at e18
          have kz := hB.box (i := 0) rfl
          have z0 := kz.frozen 0
          have q0 := kz.cell 0
          have z1 := kz.frozen 1
          have q1 := kz.cell 1
          have z2 := kz.frozen 2
          have q2 := kz.cell 2
          have z3 := kz.frozen 3
          have q3 := kz.cell 3
          have hge : w.heap.size ≤ (g0) := by omega
          have hne : ∀ qx ∈ butBox ([(g0, 30, #[.int .i64 0, .int .i64 0, .bool false, .bool false]), (w.heap.size + 1 + 1, 30, #[.int .i64 0, .int .i64 0, .bool false, .bool false]), (w.heap.size + 1, 34, #[.int .i64 b, .int .i64 d]), (w.heap.size, 34, #[.int .i64 r, .int .i64 c])] : List (Nat × TypeId × Array Value)) 0, qx.1 ≠ (g0) := by simp [butBox] <;> omega
          have hF := hB.put4 (i := 0) rfl hge hne (.int .i64 p : Value) (.int .i64 q : Value) (.bool true : Value) (.bool true : Value)
          clear kz hB hne hge
          go_simp
          exact ⟨⟨g0, rfl, hg0, by simp only [List.mem_cons, List.not_mem_nil, or_false, forall_eq_or_imp, forall_eq]; exact hn0, hF⟩, trivial, trivial⟩
  · intro a W' vals hd hsz hT hF hv hP hS
    obtain ⟨v0, v1, rfl⟩ : ∃ v0 v1, vals = [v0, v1] := by
      match vals, hv with
      | [v0, v1], _ => exact ⟨v0, v1, rfl⟩
    have hS2 : SX w 3 ([.new 30 #[.int .i64 0, .int .i64 0, .bool false, .bool false], .put 0 #[.int .i64 p, .int .i64 q, .bool true, .bool true]] : List Stp) [v0, v1] ([(w.heap.size + 1 + 1, 30, #[.int .i64 0, .int .i64 0, .bool false, .bool false]), (w.heap.size + 1, 34, #[.int .i64 b, .int .i64 d]), (w.heap.size, 34, #[.int .i64 r, .int .i64 c])] : List (Nat × TypeId × Array Value)) W' := hS
    clear hS
    obtain ⟨g0, hv0, hg0, hn0, hB0⟩ := hS2
    simp only [List.mem_cons, List.not_mem_nil, or_false, forall_eq_or_imp, forall_eq] at hn0
    have hB : SB w 3 ([(g0, 30, #[.int .i64 p, .int .i64 q, .bool true, .bool true]), (w.heap.size + 1 + 1, 30, #[.int .i64 0, .int .i64 0, .bool false, .bool false]), (w.heap.size + 1, 34, #[.int .i64 b, .int .i64 d]), (w.heap.size, 34, #[.int .i64 r, .int .i64 c])] : List (Nat × TypeId × Array Value)) W' := hB0
    clear hB0
    subst hv0
    have e9 : a.tmps.getD 9 undef = .pointer (some ⟨g0, 0, none⟩) := by
      have := hP 0 9 _ 9 rfl (by simp) rfl rfl
      simpa using this.symm
    have e2 : a.tmps.getD 2 undef = .bool true := hT 2 (by simp)
    have e3 : a.tmps.getD 3 undef = .bool true := hT 3 (by simp)
    have e4 : a.tmps.getD 4 undef = .pointer (some ⟨w.heap.size, 0, none⟩) := hT 4 (by simp)
    have e5 : a.tmps.getD 5 undef = .pointer (some ⟨w.heap.size + 1, 0, none⟩) := hT 5 (by simp)
    have e8 : a.tmps.getD 8 undef = .pointer (some ⟨w.heap.size + 1 + 1, 0, none⟩) := hT 8 (by simp)
    clear hT hF hP
    rw [act_lit 38 a hd hsz]
    simp only [List.range, List.range.loop, List.map, e2, e3, e4, e5, e8, e9]
    clear hd hsz e2 e3 e4 e5 e8 e9
    have HB3 := Lib.hid hB
    clear HB hB
    have kg := HB3.out.box (i := 0) rfl
    have cg0 := kg.cell 0
    have zg0 := kg.frozen 0
    have cg1 := kg.cell 1
    have zg1 := kg.frozen 1
    have cg2 := kg.cell 2
    have zg2 := kg.frozen 2
    have cg3 := kg.cell 3
    have zg3 := kg.frozen 3
    clear kg
    have ke := HB3.out.box (i := 1) rfl
    have ce0 := ke.cell 0
    have ze0 := ke.frozen 0
    have ce1 := ke.cell 1
    have ze1 := ke.frozen 1
    have ce2 := ke.cell 2
    have ze2 := ke.frozen 2
    have ce3 := ke.cell 3
    have ze3 := ke.frozen 3
    clear ke
    have kb := HB3.out.box (i := 2) rfl
    have cb0 := kb.cell 0
    have cb1 := kb.cell 1
    clear kb
    have kr := HB3.out.box (i := 3) rfl
    have cr0 := kr.cell 0
    have cr1 := kr.cell 1
    clear kr
    go_wp2_with fail
    go_still_tail 8, (by kernel_rfl)
    still_call (H3.out _)
    repeat still_step
    still_call (H5.out _)
    repeat still_step
    refine wpStill_nil ?_
    change wpList _ _ _ _ _ W'.drew
    clear cg0 zg0 cg1 zg1 cg2 zg2 cg3 zg3 ce0 ze0 ce1 ze1 ce2 ze2 ce3 ze3 cb0 cb1 cr0 cr1
    have HB4 := Lib.hid HB3.out.drew
    clear HB3
    have HB3 := HB4
    clear HB4
    generalize W'.drew = U1 at *
    have kg := HB3.out.box (i := 0) rfl
    have cg0 := kg.cell 0
    have zg0 := kg.frozen 0
    have cg1 := kg.cell 1
    have zg1 := kg.frozen 1
    have cg2 := kg.cell 2
    have zg2 := kg.frozen 2
    have cg3 := kg.cell 3
    have zg3 := kg.frozen 3
    clear kg
    have ke := HB3.out.box (i := 1) rfl
    have ce0 := ke.cell 0
    have ze0 := ke.frozen 0
    have ce1 := ke.cell 1
    have ze1 := ke.frozen 1
    have ce2 := ke.cell 2
    have ze2 := ke.frozen 2
    have ce3 := ke.cell 3
    have ze3 := ke.frozen 3
    clear ke
    have kb := HB3.out.box (i := 2) rfl
    have cb0 := kb.cell 0
    have cb1 := kb.cell 1
    clear kb
    have kr := HB3.out.box (i := 3) rfl
    have cr0 := kr.cell 0
    have cr1 := kr.cell 1
    clear kr
    go_wp2_with fail
    clear cg0 zg0 cg1 zg1 cg2 zg2 cg3 zg3 ce0 ze0 ce1 ze1 ce2 ze2 ce3 ze3 cb0 cb1 cr0 cr1
    have HB4 := Lib.hid (HB3.out.put1 (g := g0) (i := 0) rfl (by omega) (by simp [butBox]; omega) 0 (.int .i64 z1))
    clear HB3
    have HB3 := HB4
    clear HB4
    generalize (U1.setCell ⟨g0, 0, none⟩ (.int .i64 z1)) = V2 at *
    have kg := HB3.out.box (i := 0) rfl
    have cg0 := kg.cell 0
    have zg0 := kg.frozen 0
    have cg1 := kg.cell 1
    have zg1 := kg.frozen 1
    have cg2 := kg.cell 2
    have zg2 := kg.frozen 2
    have cg3 := kg.cell 3
    have zg3 := kg.frozen 3
    clear kg
    have ke := HB3.out.box (i := 1) rfl
    have ce0 := ke.cell 0
    have ze0 := ke.frozen 0
    have ce1 := ke.cell 1
    have ze1 := ke.frozen 1
    have ce2 := ke.cell 2
    have ze2 := ke.frozen 2
    have ce3 := ke.cell 3
    have ze3 := ke.frozen 3
    clear ke
    have kb := HB3.out.box (i := 2) rfl
    have cb0 := kb.cell 0
    have cb1 := kb.cell 1
    clear kb
    have kr := HB3.out.box (i := 3) rfl
    have cr0 := kr.cell 0
    have cr1 := kr.cell 1
    clear kr
    go_still_tail 8, (by kernel_rfl)
    still_call (H4.out _)
    repeat still_step
    still_call (H6.out _)
    repeat still_step
    refine wpStill_nil ?_
    change wpList _ _ _ _ _ V2.drew
    clear cg0 zg0 cg1 zg1 cg2 zg2 cg3 zg3 ce0 ze0 ce1 ze1 ce2 ze2 ce3 ze3 cb0 cb1 cr0 cr1
    have HB4 := Lib.hid HB3.out.drew
    clear HB3
    have HB3 := HB4
    clear HB4
    generalize V2.drew = U2 at *
    have kg := HB3.out.box (i := 0) rfl
    have cg0 := kg.cell 0
    have zg0 := kg.frozen 0
    have cg1 := kg.cell 1
    have zg1 := kg.frozen 1
    have cg2 := kg.cell 2
    have zg2 := kg.frozen 2
    have cg3 := kg.cell 3
    have zg3 := kg.frozen 3
    clear kg
    have ke := HB3.out.box (i := 1) rfl
    have ce0 := ke.cell 0
    have ze0 := ke.frozen 0
    have ce1 := ke.cell 1
    have ze1 := ke.frozen 1
    have ce2 := ke.cell 2
    have ze2 := ke.frozen 2
    have ce3 := ke.cell 3
    have ze3 := ke.frozen 3
    clear ke
    have kb := HB3.out.box (i := 2) rfl
    have cb0 := kb.cell 0
    have cb1 := kb.cell 1
    clear kb
    have kr := HB3.out.box (i := 3) rfl
    have cr0 := kr.cell 0
    have cr1 := kr.cell 1
    clear kr
    go_wp2
    have hF0 := HB3.out.put1 (g := g0) (i := 0) rfl (by omega) (by simp [butBox, setBox]; omega) 1 (.int .i64 z2)
    have hF := hF0.put4 (g := w.heap.size + 1 + 1) (i := 1) rfl (by omega) (by simp [butBox, setBox]; omega) (.int .i64 z1) (.int .i64 z2) (.bool true) (.bool true)
    have kz := hF.box (i := 1) rfl
    have r0 := kz.cell 0
    have r1 := kz.cell 1
    have r2 := kz.cell 2
    have r3 := kz.cell 3
    clear cg0 zg0 cg1 zg1 cg2 zg2 cg3 zg3 ce0 ze0 ce1 ze1 ce2 ze2 ce3 ze3 cb0 cb1 cr0 cr1
    exact bodyPost_ret (v := .agg #[.int .i64 z1, .int .i64 z2, .bool true, .bool true]) (by simp [results, Tryd.results19, go_sem, r0, r1, r2, r3]) rfl ⟨rfl, hF.bel⟩

set_option maxRecDepth 20000 in
set_option maxHeartbeats 2000000 in
theorem bRel_True_False {w : World} (r c b d : Int) :
    Calls Tryd.prog 19 #[.agg #[.int .i64 r, .int .i64 c], .agg #[.int .i64 b, .int .i64 d], .bool true, .bool false] w fun e w' => e = .returned (.agg #[.int .i64 (ba r b true 65536), .int .i64 (ba c d false 256), .bool true, .bool false]) ∧ Below w.heap.size w w' := by
  obtain ⟨p, hp⟩ : ∃ p, r % 65536 = p := ⟨_, rfl⟩
  obtain ⟨q, hq⟩ : ∃ q, c % 256 = q := ⟨_, rfl⟩
  obtain ⟨s, hs⟩ : ∃ s, b % 65536 = s := ⟨_, rfl⟩
  obtain ⟨u, hu⟩ : ∃ u, d % 256 = u := ⟨_, rfl⟩
  obtain ⟨z1, hz1⟩ : ∃ z, (p - s) % 65536 = z := ⟨_, rfl⟩
  obtain ⟨z2, hz2⟩ : ∃ z, (q - u) % 256 = z := ⟨_, rfl⟩
  have bp := Int.emod_nonneg r (show (65536 : Int) ≠ 0 by decide)
  have bp2 := Int.emod_lt_of_pos r (show (0 : Int) < 65536 by decide)
  have bq := Int.emod_nonneg c (show (256 : Int) ≠ 0 by decide)
  have bq2 := Int.emod_lt_of_pos c (show (0 : Int) < 256 by decide)
  have bs := Int.emod_nonneg b (show (65536 : Int) ≠ 0 by decide)
  have bs2 := Int.emod_lt_of_pos b (show (0 : Int) < 65536 by decide)
  have bu := Int.emod_nonneg d (show (256 : Int) ≠ 0 by decide)
  have bu2 := Int.emod_lt_of_pos d (show (0 : Int) < 256 by decide)
  rw [show ba r b true 65536 = z1 by rw [← hz1, ← hp, ← hs]; rfl, show ba c d false 256 = q by exact hq]
  have H1 : Hid (∀ W : World, Calls Tryd.prog 34 #[.int .i64 r, .int .i64 65536] W fun e w' => e = .returned (.int .i64 p) ∧ w' = W) := Lib.hid (fun W => by
    have := mod_s (w := W) r 65536 (by decide) (by decide)
    rwa [hp] at this)
  have H2 : Hid (∀ W : World, Calls Tryd.prog 34 #[.int .i64 c, .int .i64 256] W fun e w' => e = .returned (.int .i64 q) ∧ w' = W) := Lib.hid (fun W => by
    have := mod_s (w := W) c 256 (by decide) (by decide)
    rwa [hq] at this)
  have H3 : Hid (∀ W : World, Calls Tryd.prog 34 #[.int .i64 b, .int .i64 65536] W fun e w' => e = .returned (.int .i64 s) ∧ w' = W) := Lib.hid (fun W => by
    have := mod_s (w := W) b 65536 (by decide) (by decide)
    rwa [hs] at this)
  have H4 : Hid (∀ W : World, Calls Tryd.prog 34 #[.int .i64 d, .int .i64 256] W fun e w' => e = .returned (.int .i64 u) ∧ w' = W) := Lib.hid (fun W => by
    have := mod_s (w := W) d 256 (by decide) (by decide)
    rwa [hu] at this)
  have H5 : Hid (∀ W : World, Calls Tryd.prog 34 #[.int .i64 (p - s), .int .i64 65536] W fun e w' => e = .returned (.int .i64 z1) ∧ w' = W) := Lib.hid (fun W => by
    have := mod_s (w := W) (p - s) 65536 (by decide) (by decide)
    rwa [hz1] at this)
  have H6 : Hid (∀ W : World, Calls Tryd.prog 34 #[.int .i64 (q - u), .int .i64 256] W fun e w' => e = .returned (.int .i64 z2) ∧ w' = W) := Lib.hid (fun W => by
    have := mod_s (w := W) (q - u) 256 (by decide) (by decide)
    rwa [hz2] at this)
  rw [hp] at bp bp2
  rw [hq] at bq bq2
  rw [hs] at bs bs2
  rw [hu] at bu bu2
  clear hp hq hs hu hz1 hz2
  have hw1 : IntKind.i64.wrap (p - s) = p - s := IntWalk.i64_in _ (by omega)
  have hw2 : IntKind.i64.wrap (q - u) = q - u := IntWalk.i64_in _ (by omega)
  clear bp bp2 bq bq2 bs bs2 bu bu2
  have HB : Hid (SB w 3 ([(w.heap.size + 1 + 1, 30, #[.int .i64 0, .int .i64 0, .bool false, .bool false]), (w.heap.size + 1, 34, #[.int .i64 b, .int .i64 d]), (w.heap.size, 34, #[.int .i64 r, .int .i64 c])] : List (Nat × TypeId × Array Value)) (((w.alloc (.cells #[.int .i64 r, .int .i64 c] 34)).alloc (.cells #[.int .i64 b, .int .i64 d] 34)).alloc (.cells #[.int .i64 0, .int .i64 0, .bool false, .bool false] 30))) := Lib.hid (((sb1 w 34 #[.int .i64 r, .int .i64 c]).push (by simp) 34 #[.int .i64 b, .int .i64 d]).push (by simp) 30 #[.int .i64 0, .int .i64 0, .bool false, .bool false])
  go_enter Tryd.func19, Tryd.ntmps19
  go_wp2_with fail
  refine wp_region_phases (S := (fun vals W => SX w 3 ([.new 30 #[.int .i64 0, .int .i64 0, .bool false, .bool false], .put 0 #[.int .i64 p, .int .i64 q, .bool true, .bool false]] : List Stp) vals ([(w.heap.size + 1 + 1, 30, #[.int .i64 0, .int .i64 0, .bool false, .bool false]), (w.heap.size + 1, 34, #[.int .i64 b, .int .i64 d]), (w.heap.size, 34, #[.int .i64 r, .int .i64 c])] : List (Nat × TypeId × Array Value)) W)) (E := (fun _ _ => True)) [9, 10] [(2, Is (.bool true)), (3, Is (.bool false)), (4, Is (.pointer (some ⟨w.heap.size, 0, none⟩))), (5, Is (.pointer (some ⟨w.heap.size + 1, 0, none⟩))), (8, Is (.pointer (some ⟨w.heap.size + 1 + 1, 0, none⟩)))] [(10, Is (.pointer (some ⟨w.heap.size, 0, none⟩))), (11, Is (.int .i64 r)), (12, Is (.int .i64 p)), (13, Is (.pointer (some ⟨w.heap.size, 1, none⟩))), (14, Is (.int .i64 c)), (15, Is (.int .i64 q)), (16, Is (.bool true)), (17, Is (.bool false)), (18, Is (.agg #[.int .i64 p, .int .i64 q, .bool true, .bool false]))]
    [.op [4] none, .op [10] none, .op [11] none, .op [4] none, .op [13] none, .op [14] none, .op [2] none, .op [3] none, .op [12, 15, 16, 17] none, .phase 0 [] [], .phase 1 [18] [(0, 9)]] (by as_aux_lemma => kernel_rfl) ?_ ?_ ?_ ?_ ?_ ⟨stable_is _ _, stable_is _ _, stable_is _ _, stable_is _ _, stable_is _ _, stable_is _ _, stable_is _ _, stable_is _ _, stable_is _ _, stable_is _ _, stable_is _ _, stable_is _ _, stable_is _ _, stable_is _ _, trivial⟩ ?_ (HB.out.drew) ?_ ?_
  · as_aux_lemma => kernel_rfl
  · as_aux_lemma => kernel_rfl
  · as_aux_lemma => kernel_rfl
  · as_aux_lemma => kernel_rfl
  · as_aux_lemma => kernel_rfl
  · exact ⟨rfl, rfl, rfl, rfl, rfl, trivial⟩
  · refine ⟨?_, ?_, ?_, ?_, ?_, ?_, ?_, ?_, ?_, ?_, ?_, trivial⟩
    · as_aux_lemma =>
        intro vals a W hS hL
        have e4 : a.tmps.getD 4 undef = .pointer (some ⟨w.heap.size, 0, none⟩) := hL.1
        clear hL
        go_simp
        exact ⟨⟨fun d hd => by injection hd with hd; subst hd; rfl, fun h => by cases h⟩, hS, trivial⟩
    · as_aux_lemma =>
        intro vals a W hS hL
        have e10 : a.tmps.getD 10 undef = .pointer (some ⟨w.heap.size, 0, none⟩) := hL.1
        clear hL
        have kb : Bk W (w.heap.size) 34 #[.int .i64 r, .int .i64 c] := hS.bk 2 rfl rfl
        have f0 := kb.cell 0
        clear kb
        go_simp
        exact ⟨⟨fun d hd => by injection hd with hd; subst hd; rfl, fun h => by cases h⟩, hS, trivial⟩
    · as_aux_lemma =>
        intro vals a W hS hL
        have e11 : a.tmps.getD 11 undef = .int .i64 r := hL.1
        clear hL
        go_simp
        refine (quiet_b (H1.out _)).mono ?_
        rintro e W' ⟨rfl, hb⟩
        exact ⟨_, rfl, ⟨fun d hd => by injection hd with hd; subst hd; rfl, fun h => by cases h⟩, hS.call hb, trivial⟩
    · as_aux_lemma =>
        intro vals a W hS hL
        have e4 : a.tmps.getD 4 undef = .pointer (some ⟨w.heap.size, 0, none⟩) := hL.1
        clear hL
        go_simp
        exact ⟨⟨fun d hd => by injection hd with hd; subst hd; rfl, fun h => by cases h⟩, hS, trivial⟩
    · as_aux_lemma =>
        intro vals a W hS hL
        have e13 : a.tmps.getD 13 undef = .pointer (some ⟨w.heap.size, 1, none⟩) := hL.1
        clear hL
        have kb : Bk W (w.heap.size) 34 #[.int .i64 r, .int .i64 c] := hS.bk 2 rfl rfl
        have f1 := kb.cell 1
        clear kb
        go_simp
        exact ⟨⟨fun d hd => by injection hd with hd; subst hd; rfl, fun h => by cases h⟩, hS, trivial⟩
    · as_aux_lemma =>
        intro vals a W hS hL
        have e14 : a.tmps.getD 14 undef = .int .i64 c := hL.1
        clear hL
        go_simp
        refine (quiet_b (H2.out _)).mono ?_
        rintro e W' ⟨rfl, hb⟩
        exact ⟨_, rfl, ⟨fun d hd => by injection hd with hd; subst hd; rfl, fun h => by cases h⟩, hS.call hb, trivial⟩
    · as_aux_lemma =>
        intro vals a W hS hL
        have e2 : a.tmps.getD 2 undef = .bool true := hL.1
        clear hL
        go_simp
        exact ⟨⟨fun d hd => by injection hd with hd; subst hd; rfl, fun h => by cases h⟩, hS, trivial⟩
    · as_aux_lemma =>
        intro vals a W hS hL
        have e3 : a.tmps.getD 3 undef = .bool false := hL.1
        clear hL
        go_simp
        exact ⟨⟨fun d hd => by injection hd with hd; subst hd; rfl, fun h => by cases h⟩, hS, trivial⟩
    · as_aux_lemma =>
        intro vals a W hS hL
        have e12 : a.tmps.getD 12 undef = .int .i64 p := hL.1
        have e15 : a.tmps.getD 15 undef = .int .i64 q := hL.2.1
        have e16 : a.tmps.getD 16 undef = .bool true := hL.2.2.1
        have e17 : a.tmps.getD 17 undef = .bool false := hL.2.2.2.1
        clear hL
        rw [Array.getD_eq_getD_getElem?] at e12 e15 e16 e17
        go_simp
        exact ⟨⟨fun d hd => by injection hd with hd; subst hd; rfl, fun h => by cases h⟩, hS, trivial⟩
    · as_aux_lemma =>
        intro a W vals hv hS hL hp
        clear hL
        match vals, hv, hS with
        | [], _, hS =>
          have hS2 : SX w 3 ([.new 30 #[.int .i64 0, .int .i64 0, .bool false, .bool false], .put 0 #[.int .i64 p, .int .i64 q, .bool true, .bool false]] : List Stp) [] ([(w.heap.size + 1 + 1, 30, #[.int .i64 0, .int .i64 0, .bool false, .bool false]), (w.heap.size + 1, 34, #[.int .i64 b, .int .i64 d]), (w.heap.size, 34, #[.int .i64 r, .int .i64 c])] : List (Nat × TypeId × Array Value)) W := hS
          clear hS
          have hB0 := hS2
          have hB : SB w 3 ([(w.heap.size + 1 + 1, 30, #[.int .i64 0, .int .i64 0, .bool false, .bool false]), (w.heap.size + 1, 34, #[.int .i64 b, .int .i64 d]), (w.heap.size, 34, #[.int .i64 r, .int .i64 c])] : List (Nat × TypeId × Array Value)) W := hB0
          clear hB0
          have hF := hB.alloc 30 #[.int .i64 0, .int .i64 0, .bool false, .bool false]
          have hz := hB.size
          have hlt : ∀ qx ∈ ([(w.heap.size + 1 + 1, 30, #[.int .i64 0, .int .i64 0, .bool false, .bool false]), (w.heap.size + 1, 34, #[.int .i64 b, .int .i64 d]), (w.heap.size, 34, #[.int .i64 r, .int .i64 c])] : List (Nat × TypeId × Array Value)), qx.1 ≠ W.heap.size := fun qx hx => Nat.ne_of_lt (hB.bk qx hx).lt
          clear hB
          go_simp
          exact ⟨⟨_, rfl, hz, hlt, hF⟩, trivial, trivial⟩
    · as_aux_lemma =>
        intro a W vals hv hS hL hp
        have e18 : a.tmps.getD 18 undef = .agg #[.int .i64 p, .int .i64 q, .bool true, .bool false] := hL.1
        clear hL
        match vals, hv, hS with
        | [v0], _, hS =>
          have hS2 : SX w 3 ([.new 30 #[.int .i64 0, .int .i64 0, .bool false, .bool false], .put 0 #[.int .i64 p, .int .i64 q, .bool true, .bool false]] : List Stp) [v0] ([(w.heap.size + 1 + 1, 30, #[.int .i64 0, .int .i64 0, .bool false, .bool false]), (w.heap.size + 1, 34, #[.int .i64 b, .int .i64 d]), (w.heap.size, 34, #[.int .i64 r, .int .i64 c])] : List (Nat × TypeId × Array Value)) W := hS
          clear hS
          obtain ⟨g0, rfl, hg0, hn0, hB0⟩ := hS2
          have hB : SB w 3 ([(g0, 30, #[.int .i64 0, .int .i64 0, .bool false, .bool false]), (w.heap.size + 1 + 1, 30, #[.int .i64 0, .int .i64 0, .bool false, .bool false]), (w.heap.size + 1, 34, #[.int .i64 b, .int .i64 d]), (w.heap.size, 34, #[.int .i64 r, .int .i64 c])] : List (Nat × TypeId × Array Value)) W := hB0
          clear hB0
          simp only [List.mem_cons, List.not_mem_nil, or_false, forall_eq_or_imp, forall_eq] at hn0
          have e9 := hp.1 (by simp)
          simp only [List.getElem?_cons_zero, Option.some.injEq] at e9
          rw [Array.getD_eq_getD_getElem?] at e9
          have e9x := e9.symm
          clear e9
          rw [Array.getD_eq_getD_getElem?] at e18
          have kz := hB.box (i := 0) rfl
          have z0 := kz.frozen 0
          have q0 := kz.cell 0
          have z1 := kz.frozen 1
          have q1 := kz.cell 1
          have z2 := kz.frozen 2
          have q2 := kz.cell 2
          have z3 := kz.frozen 3
          have q3 := kz.cell 3
          have hge : w.heap.size ≤ (g0) := by omega
          have hne : ∀ qx ∈ butBox ([(g0, 30, #[.int .i64 0, .int .i64 0, .bool false, .bool false]), (w.heap.size + 1 + 1, 30, #[.int .i64 0, .int .i64 0, .bool false, .bool false]), (w.heap.size + 1, 34, #[.int .i64 b, .int .i64 d]), (w.heap.size, 34, #[.int .i64 r, .int .i64 c])] : List (Nat × TypeId × Array Value)) 0, qx.1 ≠ (g0) := by simp [butBox] <;> omega
          have hF := hB.put4 (i := 0) rfl hge hne (.int .i64 p : Value) (.int .i64 q : Value) (.bool true : Value) (.bool false : Value)
          clear kz hB hne hge
          go_simp
          exact ⟨⟨g0, rfl, hg0, by simp only [List.mem_cons, List.not_mem_nil, or_false, forall_eq_or_imp, forall_eq]; exact hn0, hF⟩, trivial, trivial⟩
  · intro a W' vals hd hsz hT hF hv hP hS
    obtain ⟨v0, v1, rfl⟩ : ∃ v0 v1, vals = [v0, v1] := by
      match vals, hv with
      | [v0, v1], _ => exact ⟨v0, v1, rfl⟩
    have hS2 : SX w 3 ([.new 30 #[.int .i64 0, .int .i64 0, .bool false, .bool false], .put 0 #[.int .i64 p, .int .i64 q, .bool true, .bool false]] : List Stp) [v0, v1] ([(w.heap.size + 1 + 1, 30, #[.int .i64 0, .int .i64 0, .bool false, .bool false]), (w.heap.size + 1, 34, #[.int .i64 b, .int .i64 d]), (w.heap.size, 34, #[.int .i64 r, .int .i64 c])] : List (Nat × TypeId × Array Value)) W' := hS
    clear hS
    obtain ⟨g0, hv0, hg0, hn0, hB0⟩ := hS2
    simp only [List.mem_cons, List.not_mem_nil, or_false, forall_eq_or_imp, forall_eq] at hn0
    have hB : SB w 3 ([(g0, 30, #[.int .i64 p, .int .i64 q, .bool true, .bool false]), (w.heap.size + 1 + 1, 30, #[.int .i64 0, .int .i64 0, .bool false, .bool false]), (w.heap.size + 1, 34, #[.int .i64 b, .int .i64 d]), (w.heap.size, 34, #[.int .i64 r, .int .i64 c])] : List (Nat × TypeId × Array Value)) W' := hB0
    clear hB0
    subst hv0
    have e9 : a.tmps.getD 9 undef = .pointer (some ⟨g0, 0, none⟩) := by
      have := hP 0 9 _ 9 rfl (by simp) rfl rfl
      simpa using this.symm
    have e2 : a.tmps.getD 2 undef = .bool true := hT 2 (by simp)
    have e3 : a.tmps.getD 3 undef = .bool false := hT 3 (by simp)
    have e4 : a.tmps.getD 4 undef = .pointer (some ⟨w.heap.size, 0, none⟩) := hT 4 (by simp)
    have e5 : a.tmps.getD 5 undef = .pointer (some ⟨w.heap.size + 1, 0, none⟩) := hT 5 (by simp)
    have e8 : a.tmps.getD 8 undef = .pointer (some ⟨w.heap.size + 1 + 1, 0, none⟩) := hT 8 (by simp)
    clear hT hF hP
    rw [act_lit 38 a hd hsz]
    simp only [List.range, List.range.loop, List.map, e2, e3, e4, e5, e8, e9]
    clear hd hsz e2 e3 e4 e5 e8 e9
    have HB3 := Lib.hid hB
    clear HB hB
    have kg := HB3.out.box (i := 0) rfl
    have cg0 := kg.cell 0
    have zg0 := kg.frozen 0
    have cg1 := kg.cell 1
    have zg1 := kg.frozen 1
    have cg2 := kg.cell 2
    have zg2 := kg.frozen 2
    have cg3 := kg.cell 3
    have zg3 := kg.frozen 3
    clear kg
    have ke := HB3.out.box (i := 1) rfl
    have ce0 := ke.cell 0
    have ze0 := ke.frozen 0
    have ce1 := ke.cell 1
    have ze1 := ke.frozen 1
    have ce2 := ke.cell 2
    have ze2 := ke.frozen 2
    have ce3 := ke.cell 3
    have ze3 := ke.frozen 3
    clear ke
    have kb := HB3.out.box (i := 2) rfl
    have cb0 := kb.cell 0
    have cb1 := kb.cell 1
    clear kb
    have kr := HB3.out.box (i := 3) rfl
    have cr0 := kr.cell 0
    have cr1 := kr.cell 1
    clear kr
    go_wp2_with fail
    go_still_tail 8, (by kernel_rfl)
    still_call (H3.out _)
    repeat still_step
    still_call (H5.out _)
    repeat still_step
    refine wpStill_nil ?_
    change wpList _ _ _ _ _ W'.drew
    clear cg0 zg0 cg1 zg1 cg2 zg2 cg3 zg3 ce0 ze0 ce1 ze1 ce2 ze2 ce3 ze3 cb0 cb1 cr0 cr1
    have HB4 := Lib.hid HB3.out.drew
    clear HB3
    have HB3 := HB4
    clear HB4
    generalize W'.drew = U1 at *
    have kg := HB3.out.box (i := 0) rfl
    have cg0 := kg.cell 0
    have zg0 := kg.frozen 0
    have cg1 := kg.cell 1
    have zg1 := kg.frozen 1
    have cg2 := kg.cell 2
    have zg2 := kg.frozen 2
    have cg3 := kg.cell 3
    have zg3 := kg.frozen 3
    clear kg
    have ke := HB3.out.box (i := 1) rfl
    have ce0 := ke.cell 0
    have ze0 := ke.frozen 0
    have ce1 := ke.cell 1
    have ze1 := ke.frozen 1
    have ce2 := ke.cell 2
    have ze2 := ke.frozen 2
    have ce3 := ke.cell 3
    have ze3 := ke.frozen 3
    clear ke
    have kb := HB3.out.box (i := 2) rfl
    have cb0 := kb.cell 0
    have cb1 := kb.cell 1
    clear kb
    have kr := HB3.out.box (i := 3) rfl
    have cr0 := kr.cell 0
    have cr1 := kr.cell 1
    clear kr
    go_wp2
    have hF0 := HB3.out.put1 (g := g0) (i := 0) rfl (by omega) (by simp [butBox]; omega) 0 (.int .i64 z1)
    have hF := hF0.put4 (g := w.heap.size + 1 + 1) (i := 1) rfl (by omega) (by simp [butBox, setBox]; omega) (.int .i64 z1) (.int .i64 q) (.bool true) (.bool false)
    have kz := hF.box (i := 1) rfl
    have r0 := kz.cell 0
    have r1 := kz.cell 1
    have r2 := kz.cell 2
    have r3 := kz.cell 3
    clear cg0 zg0 cg1 zg1 cg2 zg2 cg3 zg3 ce0 ze0 ce1 ze1 ce2 ze2 ce3 ze3 cb0 cb1 cr0 cr1
    exact bodyPost_ret (v := .agg #[.int .i64 z1, .int .i64 q, .bool true, .bool false]) (by simp [results, Tryd.results19, go_sem, r0, r1, r2, r3]) rfl ⟨rfl, hF.bel⟩

set_option maxRecDepth 20000 in
set_option maxHeartbeats 2000000 in
theorem bRel_False_True {w : World} (r c b d : Int) :
    Calls Tryd.prog 19 #[.agg #[.int .i64 r, .int .i64 c], .agg #[.int .i64 b, .int .i64 d], .bool false, .bool true] w fun e w' => e = .returned (.agg #[.int .i64 (ba r b false 65536), .int .i64 (ba c d true 256), .bool false, .bool true]) ∧ Below w.heap.size w w' := by
  obtain ⟨p, hp⟩ : ∃ p, r % 65536 = p := ⟨_, rfl⟩
  obtain ⟨q, hq⟩ : ∃ q, c % 256 = q := ⟨_, rfl⟩
  obtain ⟨s, hs⟩ : ∃ s, b % 65536 = s := ⟨_, rfl⟩
  obtain ⟨u, hu⟩ : ∃ u, d % 256 = u := ⟨_, rfl⟩
  obtain ⟨z1, hz1⟩ : ∃ z, (p - s) % 65536 = z := ⟨_, rfl⟩
  obtain ⟨z2, hz2⟩ : ∃ z, (q - u) % 256 = z := ⟨_, rfl⟩
  have bp := Int.emod_nonneg r (show (65536 : Int) ≠ 0 by decide)
  have bp2 := Int.emod_lt_of_pos r (show (0 : Int) < 65536 by decide)
  have bq := Int.emod_nonneg c (show (256 : Int) ≠ 0 by decide)
  have bq2 := Int.emod_lt_of_pos c (show (0 : Int) < 256 by decide)
  have bs := Int.emod_nonneg b (show (65536 : Int) ≠ 0 by decide)
  have bs2 := Int.emod_lt_of_pos b (show (0 : Int) < 65536 by decide)
  have bu := Int.emod_nonneg d (show (256 : Int) ≠ 0 by decide)
  have bu2 := Int.emod_lt_of_pos d (show (0 : Int) < 256 by decide)
  rw [show ba r b false 65536 = p by exact hp, show ba c d true 256 = z2 by rw [← hz2, ← hq, ← hu]; rfl]
  have H1 : Hid (∀ W : World, Calls Tryd.prog 34 #[.int .i64 r, .int .i64 65536] W fun e w' => e = .returned (.int .i64 p) ∧ w' = W) := Lib.hid (fun W => by
    have := mod_s (w := W) r 65536 (by decide) (by decide)
    rwa [hp] at this)
  have H2 : Hid (∀ W : World, Calls Tryd.prog 34 #[.int .i64 c, .int .i64 256] W fun e w' => e = .returned (.int .i64 q) ∧ w' = W) := Lib.hid (fun W => by
    have := mod_s (w := W) c 256 (by decide) (by decide)
    rwa [hq] at this)
  have H3 : Hid (∀ W : World, Calls Tryd.prog 34 #[.int .i64 b, .int .i64 65536] W fun e w' => e = .returned (.int .i64 s) ∧ w' = W) := Lib.hid (fun W => by
    have := mod_s (w := W) b 65536 (by decide) (by decide)
    rwa [hs] at this)
  have H4 : Hid (∀ W : World, Calls Tryd.prog 34 #[.int .i64 d, .int .i64 256] W fun e w' => e = .returned (.int .i64 u) ∧ w' = W) := Lib.hid (fun W => by
    have := mod_s (w := W) d 256 (by decide) (by decide)
    rwa [hu] at this)
  have H5 : Hid (∀ W : World, Calls Tryd.prog 34 #[.int .i64 (p - s), .int .i64 65536] W fun e w' => e = .returned (.int .i64 z1) ∧ w' = W) := Lib.hid (fun W => by
    have := mod_s (w := W) (p - s) 65536 (by decide) (by decide)
    rwa [hz1] at this)
  have H6 : Hid (∀ W : World, Calls Tryd.prog 34 #[.int .i64 (q - u), .int .i64 256] W fun e w' => e = .returned (.int .i64 z2) ∧ w' = W) := Lib.hid (fun W => by
    have := mod_s (w := W) (q - u) 256 (by decide) (by decide)
    rwa [hz2] at this)
  rw [hp] at bp bp2
  rw [hq] at bq bq2
  rw [hs] at bs bs2
  rw [hu] at bu bu2
  clear hp hq hs hu hz1 hz2
  have hw1 : IntKind.i64.wrap (p - s) = p - s := IntWalk.i64_in _ (by omega)
  have hw2 : IntKind.i64.wrap (q - u) = q - u := IntWalk.i64_in _ (by omega)
  clear bp bp2 bq bq2 bs bs2 bu bu2
  have HB : Hid (SB w 3 ([(w.heap.size + 1 + 1, 30, #[.int .i64 0, .int .i64 0, .bool false, .bool false]), (w.heap.size + 1, 34, #[.int .i64 b, .int .i64 d]), (w.heap.size, 34, #[.int .i64 r, .int .i64 c])] : List (Nat × TypeId × Array Value)) (((w.alloc (.cells #[.int .i64 r, .int .i64 c] 34)).alloc (.cells #[.int .i64 b, .int .i64 d] 34)).alloc (.cells #[.int .i64 0, .int .i64 0, .bool false, .bool false] 30))) := Lib.hid (((sb1 w 34 #[.int .i64 r, .int .i64 c]).push (by simp) 34 #[.int .i64 b, .int .i64 d]).push (by simp) 30 #[.int .i64 0, .int .i64 0, .bool false, .bool false])
  go_enter Tryd.func19, Tryd.ntmps19
  go_wp2_with fail
  refine wp_region_phases (S := (fun vals W => SX w 3 ([.new 30 #[.int .i64 0, .int .i64 0, .bool false, .bool false], .put 0 #[.int .i64 p, .int .i64 q, .bool false, .bool true]] : List Stp) vals ([(w.heap.size + 1 + 1, 30, #[.int .i64 0, .int .i64 0, .bool false, .bool false]), (w.heap.size + 1, 34, #[.int .i64 b, .int .i64 d]), (w.heap.size, 34, #[.int .i64 r, .int .i64 c])] : List (Nat × TypeId × Array Value)) W)) (E := (fun _ _ => True)) [9, 10] [(2, Is (.bool false)), (3, Is (.bool true)), (4, Is (.pointer (some ⟨w.heap.size, 0, none⟩))), (5, Is (.pointer (some ⟨w.heap.size + 1, 0, none⟩))), (8, Is (.pointer (some ⟨w.heap.size + 1 + 1, 0, none⟩)))] [(10, Is (.pointer (some ⟨w.heap.size, 0, none⟩))), (11, Is (.int .i64 r)), (12, Is (.int .i64 p)), (13, Is (.pointer (some ⟨w.heap.size, 1, none⟩))), (14, Is (.int .i64 c)), (15, Is (.int .i64 q)), (16, Is (.bool false)), (17, Is (.bool true)), (18, Is (.agg #[.int .i64 p, .int .i64 q, .bool false, .bool true]))]
    [.op [4] none, .op [10] none, .op [11] none, .op [4] none, .op [13] none, .op [14] none, .op [2] none, .op [3] none, .op [12, 15, 16, 17] none, .phase 0 [] [], .phase 1 [18] [(0, 9)]] (by as_aux_lemma => kernel_rfl) ?_ ?_ ?_ ?_ ?_ ⟨stable_is _ _, stable_is _ _, stable_is _ _, stable_is _ _, stable_is _ _, stable_is _ _, stable_is _ _, stable_is _ _, stable_is _ _, stable_is _ _, stable_is _ _, stable_is _ _, stable_is _ _, stable_is _ _, trivial⟩ ?_ (HB.out.drew) ?_ ?_
  · as_aux_lemma => kernel_rfl
  · as_aux_lemma => kernel_rfl
  · as_aux_lemma => kernel_rfl
  · as_aux_lemma => kernel_rfl
  · as_aux_lemma => kernel_rfl
  · exact ⟨rfl, rfl, rfl, rfl, rfl, trivial⟩
  · refine ⟨?_, ?_, ?_, ?_, ?_, ?_, ?_, ?_, ?_, ?_, ?_, trivial⟩
    · as_aux_lemma =>
        intro vals a W hS hL
        have e4 : a.tmps.getD 4 undef = .pointer (some ⟨w.heap.size, 0, none⟩) := hL.1
        clear hL
        go_simp
        exact ⟨⟨fun d hd => by injection hd with hd; subst hd; rfl, fun h => by cases h⟩, hS, trivial⟩
    · as_aux_lemma =>
        intro vals a W hS hL
        have e10 : a.tmps.getD 10 undef = .pointer (some ⟨w.heap.size, 0, none⟩) := hL.1
        clear hL
        have kb : Bk W (w.heap.size) 34 #[.int .i64 r, .int .i64 c] := hS.bk 2 rfl rfl
        have f0 := kb.cell 0
        clear kb
        go_simp
        exact ⟨⟨fun d hd => by injection hd with hd; subst hd; rfl, fun h => by cases h⟩, hS, trivial⟩
    · as_aux_lemma =>
        intro vals a W hS hL
        have e11 : a.tmps.getD 11 undef = .int .i64 r := hL.1
        clear hL
        go_simp
        refine (quiet_b (H1.out _)).mono ?_
        rintro e W' ⟨rfl, hb⟩
        exact ⟨_, rfl, ⟨fun d hd => by injection hd with hd; subst hd; rfl, fun h => by cases h⟩, hS.call hb, trivial⟩
    · as_aux_lemma =>
        intro vals a W hS hL
        have e4 : a.tmps.getD 4 undef = .pointer (some ⟨w.heap.size, 0, none⟩) := hL.1
        clear hL
        go_simp
        exact ⟨⟨fun d hd => by injection hd with hd; subst hd; rfl, fun h => by cases h⟩, hS, trivial⟩
    · as_aux_lemma =>
        intro vals a W hS hL
        have e13 : a.tmps.getD 13 undef = .pointer (some ⟨w.heap.size, 1, none⟩) := hL.1
        clear hL
        have kb : Bk W (w.heap.size) 34 #[.int .i64 r, .int .i64 c] := hS.bk 2 rfl rfl
        have f1 := kb.cell 1
        clear kb
        go_simp
        exact ⟨⟨fun d hd => by injection hd with hd; subst hd; rfl, fun h => by cases h⟩, hS, trivial⟩
    · as_aux_lemma =>
        intro vals a W hS hL
        have e14 : a.tmps.getD 14 undef = .int .i64 c := hL.1
        clear hL
        go_simp
        refine (quiet_b (H2.out _)).mono ?_
        rintro e W' ⟨rfl, hb⟩
        exact ⟨_, rfl, ⟨fun d hd => by injection hd with hd; subst hd; rfl, fun h => by cases h⟩, hS.call hb, trivial⟩
    · as_aux_lemma =>
        intro vals a W hS hL
        have e2 : a.tmps.getD 2 undef = .bool false := hL.1
        clear hL
        go_simp
        exact ⟨⟨fun d hd => by injection hd with hd; subst hd; rfl, fun h => by cases h⟩, hS, trivial⟩
    · as_aux_lemma =>
        intro vals a W hS hL
        have e3 : a.tmps.getD 3 undef = .bool true := hL.1
        clear hL
        go_simp
        exact ⟨⟨fun d hd => by injection hd with hd; subst hd; rfl, fun h => by cases h⟩, hS, trivial⟩
    · as_aux_lemma =>
        intro vals a W hS hL
        have e12 : a.tmps.getD 12 undef = .int .i64 p := hL.1
        have e15 : a.tmps.getD 15 undef = .int .i64 q := hL.2.1
        have e16 : a.tmps.getD 16 undef = .bool false := hL.2.2.1
        have e17 : a.tmps.getD 17 undef = .bool true := hL.2.2.2.1
        clear hL
        rw [Array.getD_eq_getD_getElem?] at e12 e15 e16 e17
        go_simp
        exact ⟨⟨fun d hd => by injection hd with hd; subst hd; rfl, fun h => by cases h⟩, hS, trivial⟩
    · as_aux_lemma =>
        intro a W vals hv hS hL hp
        clear hL
        match vals, hv, hS with
        | [], _, hS =>
          have hS2 : SX w 3 ([.new 30 #[.int .i64 0, .int .i64 0, .bool false, .bool false], .put 0 #[.int .i64 p, .int .i64 q, .bool false, .bool true]] : List Stp) [] ([(w.heap.size + 1 + 1, 30, #[.int .i64 0, .int .i64 0, .bool false, .bool false]), (w.heap.size + 1, 34, #[.int .i64 b, .int .i64 d]), (w.heap.size, 34, #[.int .i64 r, .int .i64 c])] : List (Nat × TypeId × Array Value)) W := hS
          clear hS
          have hB0 := hS2
          have hB : SB w 3 ([(w.heap.size + 1 + 1, 30, #[.int .i64 0, .int .i64 0, .bool false, .bool false]), (w.heap.size + 1, 34, #[.int .i64 b, .int .i64 d]), (w.heap.size, 34, #[.int .i64 r, .int .i64 c])] : List (Nat × TypeId × Array Value)) W := hB0
          clear hB0
          have hF := hB.alloc 30 #[.int .i64 0, .int .i64 0, .bool false, .bool false]
          have hz := hB.size
          have hlt : ∀ qx ∈ ([(w.heap.size + 1 + 1, 30, #[.int .i64 0, .int .i64 0, .bool false, .bool false]), (w.heap.size + 1, 34, #[.int .i64 b, .int .i64 d]), (w.heap.size, 34, #[.int .i64 r, .int .i64 c])] : List (Nat × TypeId × Array Value)), qx.1 ≠ W.heap.size := fun qx hx => Nat.ne_of_lt (hB.bk qx hx).lt
          clear hB
          go_simp
          exact ⟨⟨_, rfl, hz, hlt, hF⟩, trivial, trivial⟩
    · as_aux_lemma =>
        intro a W vals hv hS hL hp
        have e18 : a.tmps.getD 18 undef = .agg #[.int .i64 p, .int .i64 q, .bool false, .bool true] := hL.1
        clear hL
        match vals, hv, hS with
        | [v0], _, hS =>
          have hS2 : SX w 3 ([.new 30 #[.int .i64 0, .int .i64 0, .bool false, .bool false], .put 0 #[.int .i64 p, .int .i64 q, .bool false, .bool true]] : List Stp) [v0] ([(w.heap.size + 1 + 1, 30, #[.int .i64 0, .int .i64 0, .bool false, .bool false]), (w.heap.size + 1, 34, #[.int .i64 b, .int .i64 d]), (w.heap.size, 34, #[.int .i64 r, .int .i64 c])] : List (Nat × TypeId × Array Value)) W := hS
          clear hS
          obtain ⟨g0, rfl, hg0, hn0, hB0⟩ := hS2
          have hB : SB w 3 ([(g0, 30, #[.int .i64 0, .int .i64 0, .bool false, .bool false]), (w.heap.size + 1 + 1, 30, #[.int .i64 0, .int .i64 0, .bool false, .bool false]), (w.heap.size + 1, 34, #[.int .i64 b, .int .i64 d]), (w.heap.size, 34, #[.int .i64 r, .int .i64 c])] : List (Nat × TypeId × Array Value)) W := hB0
          clear hB0
          simp only [List.mem_cons, List.not_mem_nil, or_false, forall_eq_or_imp, forall_eq] at hn0
          have e9 := hp.1 (by simp)
          simp only [List.getElem?_cons_zero, Option.some.injEq] at e9
          rw [Array.getD_eq_getD_getElem?] at e9
          have e9x := e9.symm
          clear e9
          rw [Array.getD_eq_getD_getElem?] at e18
          have kz := hB.box (i := 0) rfl
          have z0 := kz.frozen 0
          have q0 := kz.cell 0
          have z1 := kz.frozen 1
          have q1 := kz.cell 1
          have z2 := kz.frozen 2
          have q2 := kz.cell 2
          have z3 := kz.frozen 3
          have q3 := kz.cell 3
          have hge : w.heap.size ≤ (g0) := by omega
          have hne : ∀ qx ∈ butBox ([(g0, 30, #[.int .i64 0, .int .i64 0, .bool false, .bool false]), (w.heap.size + 1 + 1, 30, #[.int .i64 0, .int .i64 0, .bool false, .bool false]), (w.heap.size + 1, 34, #[.int .i64 b, .int .i64 d]), (w.heap.size, 34, #[.int .i64 r, .int .i64 c])] : List (Nat × TypeId × Array Value)) 0, qx.1 ≠ (g0) := by simp [butBox] <;> omega
          have hF := hB.put4 (i := 0) rfl hge hne (.int .i64 p : Value) (.int .i64 q : Value) (.bool false : Value) (.bool true : Value)
          clear kz hB hne hge
          go_simp
          exact ⟨⟨g0, rfl, hg0, by simp only [List.mem_cons, List.not_mem_nil, or_false, forall_eq_or_imp, forall_eq]; exact hn0, hF⟩, trivial, trivial⟩
  · intro a W' vals hd hsz hT hF hv hP hS
    obtain ⟨v0, v1, rfl⟩ : ∃ v0 v1, vals = [v0, v1] := by
      match vals, hv with
      | [v0, v1], _ => exact ⟨v0, v1, rfl⟩
    have hS2 : SX w 3 ([.new 30 #[.int .i64 0, .int .i64 0, .bool false, .bool false], .put 0 #[.int .i64 p, .int .i64 q, .bool false, .bool true]] : List Stp) [v0, v1] ([(w.heap.size + 1 + 1, 30, #[.int .i64 0, .int .i64 0, .bool false, .bool false]), (w.heap.size + 1, 34, #[.int .i64 b, .int .i64 d]), (w.heap.size, 34, #[.int .i64 r, .int .i64 c])] : List (Nat × TypeId × Array Value)) W' := hS
    clear hS
    obtain ⟨g0, hv0, hg0, hn0, hB0⟩ := hS2
    simp only [List.mem_cons, List.not_mem_nil, or_false, forall_eq_or_imp, forall_eq] at hn0
    have hB : SB w 3 ([(g0, 30, #[.int .i64 p, .int .i64 q, .bool false, .bool true]), (w.heap.size + 1 + 1, 30, #[.int .i64 0, .int .i64 0, .bool false, .bool false]), (w.heap.size + 1, 34, #[.int .i64 b, .int .i64 d]), (w.heap.size, 34, #[.int .i64 r, .int .i64 c])] : List (Nat × TypeId × Array Value)) W' := hB0
    clear hB0
    subst hv0
    have e9 : a.tmps.getD 9 undef = .pointer (some ⟨g0, 0, none⟩) := by
      have := hP 0 9 _ 9 rfl (by simp) rfl rfl
      simpa using this.symm
    have e2 : a.tmps.getD 2 undef = .bool false := hT 2 (by simp)
    have e3 : a.tmps.getD 3 undef = .bool true := hT 3 (by simp)
    have e4 : a.tmps.getD 4 undef = .pointer (some ⟨w.heap.size, 0, none⟩) := hT 4 (by simp)
    have e5 : a.tmps.getD 5 undef = .pointer (some ⟨w.heap.size + 1, 0, none⟩) := hT 5 (by simp)
    have e8 : a.tmps.getD 8 undef = .pointer (some ⟨w.heap.size + 1 + 1, 0, none⟩) := hT 8 (by simp)
    clear hT hF hP
    rw [act_lit 38 a hd hsz]
    simp only [List.range, List.range.loop, List.map, e2, e3, e4, e5, e8, e9]
    clear hd hsz e2 e3 e4 e5 e8 e9
    have HB3 := Lib.hid hB
    clear HB hB
    have kg := HB3.out.box (i := 0) rfl
    have cg0 := kg.cell 0
    have zg0 := kg.frozen 0
    have cg1 := kg.cell 1
    have zg1 := kg.frozen 1
    have cg2 := kg.cell 2
    have zg2 := kg.frozen 2
    have cg3 := kg.cell 3
    have zg3 := kg.frozen 3
    clear kg
    have ke := HB3.out.box (i := 1) rfl
    have ce0 := ke.cell 0
    have ze0 := ke.frozen 0
    have ce1 := ke.cell 1
    have ze1 := ke.frozen 1
    have ce2 := ke.cell 2
    have ze2 := ke.frozen 2
    have ce3 := ke.cell 3
    have ze3 := ke.frozen 3
    clear ke
    have kb := HB3.out.box (i := 2) rfl
    have cb0 := kb.cell 0
    have cb1 := kb.cell 1
    clear kb
    have kr := HB3.out.box (i := 3) rfl
    have cr0 := kr.cell 0
    have cr1 := kr.cell 1
    clear kr
    go_wp2_with fail
    go_still_tail 8, (by kernel_rfl)
    still_call (H4.out _)
    repeat still_step
    still_call (H6.out _)
    repeat still_step
    refine wpStill_nil ?_
    change wpList _ _ _ _ _ W'.drew
    clear cg0 zg0 cg1 zg1 cg2 zg2 cg3 zg3 ce0 ze0 ce1 ze1 ce2 ze2 ce3 ze3 cb0 cb1 cr0 cr1
    have HB4 := Lib.hid HB3.out.drew
    clear HB3
    have HB3 := HB4
    clear HB4
    generalize W'.drew = U1 at *
    have kg := HB3.out.box (i := 0) rfl
    have cg0 := kg.cell 0
    have zg0 := kg.frozen 0
    have cg1 := kg.cell 1
    have zg1 := kg.frozen 1
    have cg2 := kg.cell 2
    have zg2 := kg.frozen 2
    have cg3 := kg.cell 3
    have zg3 := kg.frozen 3
    clear kg
    have ke := HB3.out.box (i := 1) rfl
    have ce0 := ke.cell 0
    have ze0 := ke.frozen 0
    have ce1 := ke.cell 1
    have ze1 := ke.frozen 1
    have ce2 := ke.cell 2
    have ze2 := ke.frozen 2
    have ce3 := ke.cell 3
    have ze3 := ke.frozen 3
    clear ke
    have kb := HB3.out.box (i := 2) rfl
    have cb0 := kb.cell 0
    have cb1 := kb.cell 1
    clear kb
    have kr := HB3.out.box (i := 3) rfl
    have cr0 := kr.cell 0
    have cr1 := kr.cell 1
    clear kr
    go_wp2
    have hF0 := HB3.out.put1 (g := g0) (i := 0) rfl (by omega) (by simp [butBox]; omega) 1 (.int .i64 z2)
    have hF := hF0.put4 (g := w.heap.size + 1 + 1) (i := 1) rfl (by omega) (by simp [butBox, setBox]; omega) (.int .i64 p) (.int .i64 z2) (.bool false) (.bool true)
    have kz := hF.box (i := 1) rfl
    have r0 := kz.cell 0
    have r1 := kz.cell 1
    have r2 := kz.cell 2
    have r3 := kz.cell 3
    clear cg0 zg0 cg1 zg1 cg2 zg2 cg3 zg3 ce0 ze0 ce1 ze1 ce2 ze2 ce3 ze3 cb0 cb1 cr0 cr1
    exact bodyPost_ret (v := .agg #[.int .i64 p, .int .i64 z2, .bool false, .bool true]) (by simp [results, Tryd.results19, go_sem, r0, r1, r2, r3]) rfl ⟨rfl, hF.bel⟩

set_option maxRecDepth 20000 in
set_option maxHeartbeats 2000000 in
theorem bRel_False_False {w : World} (r c b d : Int) :
    Calls Tryd.prog 19 #[.agg #[.int .i64 r, .int .i64 c], .agg #[.int .i64 b, .int .i64 d], .bool false, .bool false] w fun e w' => e = .returned (.agg #[.int .i64 (ba r b false 65536), .int .i64 (ba c d false 256), .bool false, .bool false]) ∧ Below w.heap.size w w' := by
  obtain ⟨p, hp⟩ : ∃ p, r % 65536 = p := ⟨_, rfl⟩
  obtain ⟨q, hq⟩ : ∃ q, c % 256 = q := ⟨_, rfl⟩
  obtain ⟨s, hs⟩ : ∃ s, b % 65536 = s := ⟨_, rfl⟩
  obtain ⟨u, hu⟩ : ∃ u, d % 256 = u := ⟨_, rfl⟩
  obtain ⟨z1, hz1⟩ : ∃ z, (p - s) % 65536 = z := ⟨_, rfl⟩
  obtain ⟨z2, hz2⟩ : ∃ z, (q - u) % 256 = z := ⟨_, rfl⟩
  have bp := Int.emod_nonneg r (show (65536 : Int) ≠ 0 by decide)
  have bp2 := Int.emod_lt_of_pos r (show (0 : Int) < 65536 by decide)
  have bq := Int.emod_nonneg c (show (256 : Int) ≠ 0 by decide)
  have bq2 := Int.emod_lt_of_pos c (show (0 : Int) < 256 by decide)
  have bs := Int.emod_nonneg b (show (65536 : Int) ≠ 0 by decide)
  have bs2 := Int.emod_lt_of_pos b (show (0 : Int) < 65536 by decide)
  have bu := Int.emod_nonneg d (show (256 : Int) ≠ 0 by decide)
  have bu2 := Int.emod_lt_of_pos d (show (0 : Int) < 256 by decide)
  rw [show ba r b false 65536 = p by exact hp, show ba c d false 256 = q by exact hq]
  have H1 : Hid (∀ W : World, Calls Tryd.prog 34 #[.int .i64 r, .int .i64 65536] W fun e w' => e = .returned (.int .i64 p) ∧ w' = W) := Lib.hid (fun W => by
    have := mod_s (w := W) r 65536 (by decide) (by decide)
    rwa [hp] at this)
  have H2 : Hid (∀ W : World, Calls Tryd.prog 34 #[.int .i64 c, .int .i64 256] W fun e w' => e = .returned (.int .i64 q) ∧ w' = W) := Lib.hid (fun W => by
    have := mod_s (w := W) c 256 (by decide) (by decide)
    rwa [hq] at this)
  have H3 : Hid (∀ W : World, Calls Tryd.prog 34 #[.int .i64 b, .int .i64 65536] W fun e w' => e = .returned (.int .i64 s) ∧ w' = W) := Lib.hid (fun W => by
    have := mod_s (w := W) b 65536 (by decide) (by decide)
    rwa [hs] at this)
  have H4 : Hid (∀ W : World, Calls Tryd.prog 34 #[.int .i64 d, .int .i64 256] W fun e w' => e = .returned (.int .i64 u) ∧ w' = W) := Lib.hid (fun W => by
    have := mod_s (w := W) d 256 (by decide) (by decide)
    rwa [hu] at this)
  have H5 : Hid (∀ W : World, Calls Tryd.prog 34 #[.int .i64 (p - s), .int .i64 65536] W fun e w' => e = .returned (.int .i64 z1) ∧ w' = W) := Lib.hid (fun W => by
    have := mod_s (w := W) (p - s) 65536 (by decide) (by decide)
    rwa [hz1] at this)
  have H6 : Hid (∀ W : World, Calls Tryd.prog 34 #[.int .i64 (q - u), .int .i64 256] W fun e w' => e = .returned (.int .i64 z2) ∧ w' = W) := Lib.hid (fun W => by
    have := mod_s (w := W) (q - u) 256 (by decide) (by decide)
    rwa [hz2] at this)
  rw [hp] at bp bp2
  rw [hq] at bq bq2
  rw [hs] at bs bs2
  rw [hu] at bu bu2
  clear hp hq hs hu hz1 hz2
  have hw1 : IntKind.i64.wrap (p - s) = p - s := IntWalk.i64_in _ (by omega)
  have hw2 : IntKind.i64.wrap (q - u) = q - u := IntWalk.i64_in _ (by omega)
  clear bp bp2 bq bq2 bs bs2 bu bu2
  have HB : Hid (SB w 3 ([(w.heap.size + 1 + 1, 30, #[.int .i64 0, .int .i64 0, .bool false, .bool false]), (w.heap.size + 1, 34, #[.int .i64 b, .int .i64 d]), (w.heap.size, 34, #[.int .i64 r, .int .i64 c])] : List (Nat × TypeId × Array Value)) (((w.alloc (.cells #[.int .i64 r, .int .i64 c] 34)).alloc (.cells #[.int .i64 b, .int .i64 d] 34)).alloc (.cells #[.int .i64 0, .int .i64 0, .bool false, .bool false] 30))) := Lib.hid (((sb1 w 34 #[.int .i64 r, .int .i64 c]).push (by simp) 34 #[.int .i64 b, .int .i64 d]).push (by simp) 30 #[.int .i64 0, .int .i64 0, .bool false, .bool false])
  go_enter Tryd.func19, Tryd.ntmps19
  go_wp2_with fail
  refine wp_region_phases (S := (fun vals W => SX w 3 ([.new 30 #[.int .i64 0, .int .i64 0, .bool false, .bool false], .put 0 #[.int .i64 p, .int .i64 q, .bool false, .bool false]] : List Stp) vals ([(w.heap.size + 1 + 1, 30, #[.int .i64 0, .int .i64 0, .bool false, .bool false]), (w.heap.size + 1, 34, #[.int .i64 b, .int .i64 d]), (w.heap.size, 34, #[.int .i64 r, .int .i64 c])] : List (Nat × TypeId × Array Value)) W)) (E := (fun _ _ => True)) [9, 10] [(2, Is (.bool false)), (3, Is (.bool false)), (4, Is (.pointer (some ⟨w.heap.size, 0, none⟩))), (5, Is (.pointer (some ⟨w.heap.size + 1, 0, none⟩))), (8, Is (.pointer (some ⟨w.heap.size + 1 + 1, 0, none⟩)))] [(10, Is (.pointer (some ⟨w.heap.size, 0, none⟩))), (11, Is (.int .i64 r)), (12, Is (.int .i64 p)), (13, Is (.pointer (some ⟨w.heap.size, 1, none⟩))), (14, Is (.int .i64 c)), (15, Is (.int .i64 q)), (16, Is (.bool false)), (17, Is (.bool false)), (18, Is (.agg #[.int .i64 p, .int .i64 q, .bool false, .bool false]))]
    [.op [4] none, .op [10] none, .op [11] none, .op [4] none, .op [13] none, .op [14] none, .op [2] none, .op [3] none, .op [12, 15, 16, 17] none, .phase 0 [] [], .phase 1 [18] [(0, 9)]] (by as_aux_lemma => kernel_rfl) ?_ ?_ ?_ ?_ ?_ ⟨stable_is _ _, stable_is _ _, stable_is _ _, stable_is _ _, stable_is _ _, stable_is _ _, stable_is _ _, stable_is _ _, stable_is _ _, stable_is _ _, stable_is _ _, stable_is _ _, stable_is _ _, stable_is _ _, trivial⟩ ?_ (HB.out.drew) ?_ ?_
  · as_aux_lemma => kernel_rfl
  · as_aux_lemma => kernel_rfl
  · as_aux_lemma => kernel_rfl
  · as_aux_lemma => kernel_rfl
  · as_aux_lemma => kernel_rfl
  · exact ⟨rfl, rfl, rfl, rfl, rfl, trivial⟩
  · refine ⟨?_, ?_, ?_, ?_, ?_, ?_, ?_, ?_, ?_, ?_, ?_, trivial⟩
    · as_aux_lemma =>
        intro vals a W hS hL
        have e4 : a.tmps.getD 4 undef = .pointer (some ⟨w.heap.size, 0, none⟩) := hL.1
        clear hL
        go_simp
        exact ⟨⟨fun d hd => by injection hd with hd; subst hd; rfl, fun h => by cases h⟩, hS, trivial⟩
    · as_aux_lemma =>
        intro vals a W hS hL
        have e10 : a.tmps.getD 10 undef = .pointer (some ⟨w.heap.size, 0, none⟩) := hL.1
        clear hL
        have kb : Bk W (w.heap.size) 34 #[.int .i64 r, .int .i64 c] := hS.bk 2 rfl rfl
        have f0 := kb.cell 0
        clear kb
        go_simp
        exact ⟨⟨fun d hd => by injection hd with hd; subst hd; rfl, fun h => by cases h⟩, hS, trivial⟩
    · as_aux_lemma =>
        intro vals a W hS hL
        have e11 : a.tmps.getD 11 undef = .int .i64 r := hL.1
        clear hL
        go_simp
        refine (quiet_b (H1.out _)).mono ?_
        rintro e W' ⟨rfl, hb⟩
        exact ⟨_, rfl, ⟨fun d hd => by injection hd with hd; subst hd; rfl, fun h => by cases h⟩, hS.call hb, trivial⟩
    · as_aux_lemma =>
        intro vals a W hS hL
        have e4 : a.tmps.getD 4 undef = .pointer (some ⟨w.heap.size, 0, none⟩) := hL.1
        clear hL
        go_simp
        exact ⟨⟨fun d hd => by injection hd with hd; subst hd; rfl, fun h => by cases h⟩, hS, trivial⟩
    · as_aux_lemma =>
        intro vals a W hS hL
        have e13 : a.tmps.getD 13 undef = .pointer (some ⟨w.heap.size, 1, none⟩) := hL.1
        clear hL
        have kb : Bk W (w.heap.size) 34 #[.int .i64 r, .int .i64 c] := hS.bk 2 rfl rfl
        have f1 := kb.cell 1
        clear kb
        go_simp
        exact ⟨⟨fun d hd => by injection hd with hd; subst hd; rfl, fun h => by cases h⟩, hS, trivial⟩
    · as_aux_lemma =>
        intro vals a W hS hL
        have e14 : a.tmps.getD 14 undef = .int .i64 c := hL.1
        clear hL
        go_simp
        refine (quiet_b (H2.out _)).mono ?_
        rintro e W' ⟨rfl, hb⟩
        exact ⟨_, rfl, ⟨fun d hd => by injection hd with hd; subst hd; rfl, fun h => by cases h⟩, hS.call hb, trivial⟩
    · as_aux_lemma =>
        intro vals a W hS hL
        have e2 : a.tmps.getD 2 undef = .bool false := hL.1
        clear hL
        go_simp
        exact ⟨⟨fun d hd => by injection hd with hd; subst hd; rfl, fun h => by cases h⟩, hS, trivial⟩
    · as_aux_lemma =>
        intro vals a W hS hL
        have e3 : a.tmps.getD 3 undef = .bool false := hL.1
        clear hL
        go_simp
        exact ⟨⟨fun d hd => by injection hd with hd; subst hd; rfl, fun h => by cases h⟩, hS, trivial⟩
    · as_aux_lemma =>
        intro vals a W hS hL
        have e12 : a.tmps.getD 12 undef = .int .i64 p := hL.1
        have e15 : a.tmps.getD 15 undef = .int .i64 q := hL.2.1
        have e16 : a.tmps.getD 16 undef = .bool false := hL.2.2.1
        have e17 : a.tmps.getD 17 undef = .bool false := hL.2.2.2.1
        clear hL
        rw [Array.getD_eq_getD_getElem?] at e12 e15 e16 e17
        go_simp
        exact ⟨⟨fun d hd => by injection hd with hd; subst hd; rfl, fun h => by cases h⟩, hS, trivial⟩
    · as_aux_lemma =>
        intro a W vals hv hS hL hp
        clear hL
        match vals, hv, hS with
        | [], _, hS =>
          have hS2 : SX w 3 ([.new 30 #[.int .i64 0, .int .i64 0, .bool false, .bool false], .put 0 #[.int .i64 p, .int .i64 q, .bool false, .bool false]] : List Stp) [] ([(w.heap.size + 1 + 1, 30, #[.int .i64 0, .int .i64 0, .bool false, .bool false]), (w.heap.size + 1, 34, #[.int .i64 b, .int .i64 d]), (w.heap.size, 34, #[.int .i64 r, .int .i64 c])] : List (Nat × TypeId × Array Value)) W := hS
          clear hS
          have hB0 := hS2
          have hB : SB w 3 ([(w.heap.size + 1 + 1, 30, #[.int .i64 0, .int .i64 0, .bool false, .bool false]), (w.heap.size + 1, 34, #[.int .i64 b, .int .i64 d]), (w.heap.size, 34, #[.int .i64 r, .int .i64 c])] : List (Nat × TypeId × Array Value)) W := hB0
          clear hB0
          have hF := hB.alloc 30 #[.int .i64 0, .int .i64 0, .bool false, .bool false]
          have hz := hB.size
          have hlt : ∀ qx ∈ ([(w.heap.size + 1 + 1, 30, #[.int .i64 0, .int .i64 0, .bool false, .bool false]), (w.heap.size + 1, 34, #[.int .i64 b, .int .i64 d]), (w.heap.size, 34, #[.int .i64 r, .int .i64 c])] : List (Nat × TypeId × Array Value)), qx.1 ≠ W.heap.size := fun qx hx => Nat.ne_of_lt (hB.bk qx hx).lt
          clear hB
          go_simp
          exact ⟨⟨_, rfl, hz, hlt, hF⟩, trivial, trivial⟩
    · as_aux_lemma =>
        intro a W vals hv hS hL hp
        have e18 : a.tmps.getD 18 undef = .agg #[.int .i64 p, .int .i64 q, .bool false, .bool false] := hL.1
        clear hL
        match vals, hv, hS with
        | [v0], _, hS =>
          have hS2 : SX w 3 ([.new 30 #[.int .i64 0, .int .i64 0, .bool false, .bool false], .put 0 #[.int .i64 p, .int .i64 q, .bool false, .bool false]] : List Stp) [v0] ([(w.heap.size + 1 + 1, 30, #[.int .i64 0, .int .i64 0, .bool false, .bool false]), (w.heap.size + 1, 34, #[.int .i64 b, .int .i64 d]), (w.heap.size, 34, #[.int .i64 r, .int .i64 c])] : List (Nat × TypeId × Array Value)) W := hS
          clear hS
          obtain ⟨g0, rfl, hg0, hn0, hB0⟩ := hS2
          have hB : SB w 3 ([(g0, 30, #[.int .i64 0, .int .i64 0, .bool false, .bool false]), (w.heap.size + 1 + 1, 30, #[.int .i64 0, .int .i64 0, .bool false, .bool false]), (w.heap.size + 1, 34, #[.int .i64 b, .int .i64 d]), (w.heap.size, 34, #[.int .i64 r, .int .i64 c])] : List (Nat × TypeId × Array Value)) W := hB0
          clear hB0
          simp only [List.mem_cons, List.not_mem_nil, or_false, forall_eq_or_imp, forall_eq] at hn0
          have e9 := hp.1 (by simp)
          simp only [List.getElem?_cons_zero, Option.some.injEq] at e9
          rw [Array.getD_eq_getD_getElem?] at e9
          have e9x := e9.symm
          clear e9
          rw [Array.getD_eq_getD_getElem?] at e18
          have kz := hB.box (i := 0) rfl
          have z0 := kz.frozen 0
          have q0 := kz.cell 0
          have z1 := kz.frozen 1
          have q1 := kz.cell 1
          have z2 := kz.frozen 2
          have q2 := kz.cell 2
          have z3 := kz.frozen 3
          have q3 := kz.cell 3
          have hge : w.heap.size ≤ (g0) := by omega
          have hne : ∀ qx ∈ butBox ([(g0, 30, #[.int .i64 0, .int .i64 0, .bool false, .bool false]), (w.heap.size + 1 + 1, 30, #[.int .i64 0, .int .i64 0, .bool false, .bool false]), (w.heap.size + 1, 34, #[.int .i64 b, .int .i64 d]), (w.heap.size, 34, #[.int .i64 r, .int .i64 c])] : List (Nat × TypeId × Array Value)) 0, qx.1 ≠ (g0) := by simp [butBox] <;> omega
          have hF := hB.put4 (i := 0) rfl hge hne (.int .i64 p : Value) (.int .i64 q : Value) (.bool false : Value) (.bool false : Value)
          clear kz hB hne hge
          go_simp
          exact ⟨⟨g0, rfl, hg0, by simp only [List.mem_cons, List.not_mem_nil, or_false, forall_eq_or_imp, forall_eq]; exact hn0, hF⟩, trivial, trivial⟩
  · intro a W' vals hd hsz hT hF hv hP hS
    obtain ⟨v0, v1, rfl⟩ : ∃ v0 v1, vals = [v0, v1] := by
      match vals, hv with
      | [v0, v1], _ => exact ⟨v0, v1, rfl⟩
    have hS2 : SX w 3 ([.new 30 #[.int .i64 0, .int .i64 0, .bool false, .bool false], .put 0 #[.int .i64 p, .int .i64 q, .bool false, .bool false]] : List Stp) [v0, v1] ([(w.heap.size + 1 + 1, 30, #[.int .i64 0, .int .i64 0, .bool false, .bool false]), (w.heap.size + 1, 34, #[.int .i64 b, .int .i64 d]), (w.heap.size, 34, #[.int .i64 r, .int .i64 c])] : List (Nat × TypeId × Array Value)) W' := hS
    clear hS
    obtain ⟨g0, hv0, hg0, hn0, hB0⟩ := hS2
    simp only [List.mem_cons, List.not_mem_nil, or_false, forall_eq_or_imp, forall_eq] at hn0
    have hB : SB w 3 ([(g0, 30, #[.int .i64 p, .int .i64 q, .bool false, .bool false]), (w.heap.size + 1 + 1, 30, #[.int .i64 0, .int .i64 0, .bool false, .bool false]), (w.heap.size + 1, 34, #[.int .i64 b, .int .i64 d]), (w.heap.size, 34, #[.int .i64 r, .int .i64 c])] : List (Nat × TypeId × Array Value)) W' := hB0
    clear hB0
    subst hv0
    have e9 : a.tmps.getD 9 undef = .pointer (some ⟨g0, 0, none⟩) := by
      have := hP 0 9 _ 9 rfl (by simp) rfl rfl
      simpa using this.symm
    have e2 : a.tmps.getD 2 undef = .bool false := hT 2 (by simp)
    have e3 : a.tmps.getD 3 undef = .bool false := hT 3 (by simp)
    have e4 : a.tmps.getD 4 undef = .pointer (some ⟨w.heap.size, 0, none⟩) := hT 4 (by simp)
    have e5 : a.tmps.getD 5 undef = .pointer (some ⟨w.heap.size + 1, 0, none⟩) := hT 5 (by simp)
    have e8 : a.tmps.getD 8 undef = .pointer (some ⟨w.heap.size + 1 + 1, 0, none⟩) := hT 8 (by simp)
    clear hT hF hP
    rw [act_lit 38 a hd hsz]
    simp only [List.range, List.range.loop, List.map, e2, e3, e4, e5, e8, e9]
    clear hd hsz e2 e3 e4 e5 e8 e9
    have HB3 := Lib.hid hB
    clear HB hB
    have kg := HB3.out.box (i := 0) rfl
    have cg0 := kg.cell 0
    have zg0 := kg.frozen 0
    have cg1 := kg.cell 1
    have zg1 := kg.frozen 1
    have cg2 := kg.cell 2
    have zg2 := kg.frozen 2
    have cg3 := kg.cell 3
    have zg3 := kg.frozen 3
    clear kg
    have ke := HB3.out.box (i := 1) rfl
    have ce0 := ke.cell 0
    have ze0 := ke.frozen 0
    have ce1 := ke.cell 1
    have ze1 := ke.frozen 1
    have ce2 := ke.cell 2
    have ze2 := ke.frozen 2
    have ce3 := ke.cell 3
    have ze3 := ke.frozen 3
    clear ke
    have kb := HB3.out.box (i := 2) rfl
    have cb0 := kb.cell 0
    have cb1 := kb.cell 1
    clear kb
    have kr := HB3.out.box (i := 3) rfl
    have cr0 := kr.cell 0
    have cr1 := kr.cell 1
    clear kr
    go_wp2
    have hF := HB3.out.put4 (g := w.heap.size + 1 + 1) (i := 1) rfl (by omega) (by simp [butBox]; omega) (.int .i64 p) (.int .i64 q) (.bool false) (.bool false)
    have kz := hF.box (i := 1) rfl
    have r0 := kz.cell 0
    have r1 := kz.cell 1
    have r2 := kz.cell 2
    have r3 := kz.cell 3
    clear cg0 zg0 cg1 zg1 cg2 zg2 cg3 zg3 ce0 ze0 ce1 ze1 ce2 ze2 ce3 ze3 cb0 cb1 cr0 cr1
    exact bodyPost_ret (v := .agg #[.int .i64 p, .int .i64 q, .bool false, .bool false]) (by simp [results, Tryd.results19, go_sem, r0, r1, r2, r3]) rfl ⟨rfl, hF.bel⟩

theorem bAt_any {w : World} (r c b d : Int) (x y : Bool) :
    Calls Tryd.prog 17 #[.agg #[.int .i64 r, .int .i64 c, .bool x, .bool y], .agg #[.int .i64 b, .int .i64 d]] w fun e w' => e = .returned (.agg #[.int .i64 (fo r b x 65536), .int .i64 (fo c d y 256)]) ∧ Below w.heap.size w w' := by
  cases x <;> cases y
  · exact bAt_False_False r c b d
  · exact bAt_False_True r c b d
  · exact bAt_True_False r c b d
  · exact bAt_True_True r c b d
theorem bRel_any {w : World} (r c b d : Int) (x y : Bool) :
    Calls Tryd.prog 19 #[.agg #[.int .i64 r, .int .i64 c], .agg #[.int .i64 b, .int .i64 d], .bool x, .bool y] w fun e w' => e = .returned (.agg #[.int .i64 (ba r b x 65536), .int .i64 (ba c d y 256), .bool x, .bool y]) ∧ Below w.heap.size w w' := by
  cases x <;> cases y
  · exact bRel_False_False r c b d
  · exact bRel_False_True r c b d
  · exact bRel_True_False r c b d
  · exact bRel_True_True r c b d
end Go.Proofs.YtgjijjdpkmdcgaaDoor
