/- ExprBrackets by its contract: it returns true. Condition: utf8.ValidString keeps its contract. -/
import Derived.Test.YtofbmlfpkcociaaDoorKn
import Derived.Test.YtofbmlfpkcociaaDoorFw
import Derived.Test.YtofbmlfpkcociaaDoorTo
import Derived.Test.YtofbmlfpkcociaaDoorPt
import Derived.Test.YtofbmlfpkcociaaDoorRf
import Derived.Test.YtofbmlfpkcociaaDoorPhu
set_option linter.unusedVariables false
set_option linter.unusedSimpArgs false
namespace Go.Proofs.YtofbmlfpkcociaaDoor
open Go.RowKit

/-- The tree in the brackets so far, in its box. -/
structure BrL (w6 : World) (g : Nat) (t : Tr) (wr : World) : Prop where
  bel : Below g w6 wr
  row : ∃ A c, Bk wr g 43 (ec t.pay (.slice A t.kids.length c)).toArray ∧ t.kids.length ≤ c ∧ RowF treeF wr (fun i => i < wr.heap.size ∧ i ≠ g) A t.kids.length t.kids

set_option maxRecDepth 20000 in
set_option maxHeartbeats 8000000 in
theorem bracketsLaw {w : World} (HV : Val w) {p : Pay} {ks : List Tr} {A : Option Addr} {c : Nat} (hat : AtT w p ks A c) (n : Nat) (hn : n < 256) :
    Calls Tryd.prog 4 #[.agg (ec p (.slice A ks.length c)).toArray, .int .u8 n] w fun e W => e = .returned (.bool true) ∧ Below w.heap.size w W := by
  obtain ⟨w1, hw1⟩ : ∃ w1, w1 = w.alloc (.cells (ec p (.slice A ks.length c)).toArray 32) := ⟨_, rfl⟩
  have hb1 : Below w.heap.size w w1 := by rw [hw1]; exact bel0 _ _
  obtain ⟨b, hb0⟩ : ∃ b, b = w.heap.size := ⟨_, rfl⟩
  have hbx : Bk w1 b 32 (ec p (.slice A ks.length c)).toArray := by rw [hw1, hb0]; exact Bk.new _ _ _
  have h1 := hat.below hb1
  have HV1 := HV.below hb1
  have HV0 := Lib.hid HV
  have HX := Lib.hid (And.intro HV1 (And.intro hbx (And.intro h1 hn)))
  have HB := Lib.hid hb1
  clear HV HV1 hb1 hbx h1 hat hn
  go_enter Tryd.func4, Tryd.ntmps4
  repeat' (first | go_values | go_skip | go_guarded | go_step | go_upon)
  rw [← hb0, ← hw1]
  clear hw1 hb0
  refine (known_any HX.out.1).mono ?_
  rintro e W1 ⟨rfl, hB1⟩
  have HX := Lib.hid (And.intro (HX.out.1.below hB1) (And.intro (HX.out.2.1.below hB1 HX.out.2.1.lt) (And.intro (HX.out.2.2.1.below hB1) HX.out.2.2.2)))
  have HB := Lib.hid (HB.out.trans (hB1.mono HB.out.size))
  clear hB1
  dsimp only
  repeat' (first | ((with_reducible show Oper.wp _ _ _ _ _ _); apply stop_r; exact rfl) | go_values | go_skip | go_guarded | go_step | go_upon)
  refine Lib.hid ?_
  apply ld_r
  · exact rfl
  · exact rfl
  · exact HX.out.2.1
  go_simp
  repeat' (first | go_values | go_skip | go_guarded | go_step | go_upon)
  refine (Few_any (most := 200) HX.out.2.2.1 (by omega)).mono ?_
  rintro e W2 ⟨few, rfl, hB2, hfew⟩
  have HX := Lib.hid (And.intro (HX.out.1.below hB2) (And.intro (HX.out.2.1.below hB2 HX.out.2.1.lt) (And.intro (HX.out.2.2.1.below hB2) HX.out.2.2.2)))
  have c17 : W2.cell? ⟨b, 17, none⟩ = some (.slice A ks.length c) := HX.out.2.1.cell 17
  have HB := Lib.hid (HB.out.trans (hB2.mono HB.out.size))
  clear hB2
  dsimp only
  cases few with
  | false =>
    clear hfew
    repeat' (first | go_values | go_skip | go_guarded | go_step | go_upon)
    exact bodyPost_ret (v := .bool true) (by simp [results, Tryd.results4, go_sem]) rfl ⟨rfl, HB.out⟩
  | true =>
    have HF := Lib.hid (hfew rfl)
    clear hfew
    have hbk := HX.out.2.1
    repeat' (first | ((with_reducible show Oper.wp _ _ _ _ _ _); apply ld_r; exact rfl; exact rfl; assumption; go_simp) | go_values | go_skip | go_guarded | go_step | go_upon)
    clear hbk c17
    refine (to_any 200 p ks HF.out.1 (by omega) W2 A c HX.out.2.2.1).mono ?_
    rintro e W3 ⟨v, rfl, hT, hB3⟩
    obtain ⟨A2, c2, rfl, hc2, hrow⟩ := hT
    have hat3 : AtT W3 p ks A2 c2 := ⟨hc2, hrow.move (Move.wide fun i hi => hi.2)⟩
    have HX := Lib.hid (And.intro (HX.out.1.below hB3) (And.intro hat3 HX.out.2.2.2))
    have hk0 : Bk (W3.alloc (.cells #[.int .i64 0, .int .i64 0, .int .i64 0, .int .i64 0, .string ⟨#[]⟩, .bool false, .int .i64 0, .int .i64 0, .int .i64 0, .bool false, .bool false, .int .i64 0, .int .i64 0, .bool false, .bool false, .int .i64 0, .int .i64 0, .slice none 0 0] 43)) W3.heap.size 43 (ec zp (.slice none 0 0)).toArray := Bk.new _ _ _
    have HB := Lib.hid (HB.out.trans (hB3.mono HB.out.size))
    clear hB3 hc2 hrow hat3
    dsimp only
    repeat' (first | ((with_reducible show Oper.wp _ _ _ _ _ _); apply stop_s; exact rfl) | go_values | go_skip | go_guarded | go_step | go_upon)
    refine Lib.hid ?_
    apply st_p
    · exact rfl
    · exact rfl
    · exact rfl
    · exact hk0
    · exact rfl
    intro W4 hk5 hK4 hz4
    have hb4 := made_box hK4
    have HX := Lib.hid (And.intro (HX.out.1.below hb4) (And.intro (HX.out.2.1.below hb4) HX.out.2.2))
    have HB := Lib.hid (HB.out.trans (hb4.mono HB.out.size))
    clear hk0 hK4 hz4 hb4
    have hl5 := hk5.lt
    generalize W3.heap.size = g5 at *
    go_simp
    repeat' (first | ((with_reducible show Oper.wp _ _ _ _ _ _); apply ld_p; exact rfl; exact rfl; assumption; go_simp) | go_values | go_skip | go_guarded | go_step | go_upon)
    have hcx : cntT (.mk p ks) ≤ 100000 := Nat.le_trans HF.out.1 (by omega)
    have hsx : ShortN (ndT (.mk p ks)) := fun q hq => Nat.le_trans (HF.out.2 q hq) (by omega)
    refine (check_t HX.out.1 HX.out.2.1 hcx hsx).mono ?_
    rintro e W5 ⟨rfl, hb5⟩
    have HX := Lib.hid (And.intro (HX.out.1.below hb5) (And.intro (HX.out.2.1.below hb5) HX.out.2.2))
    have hk5 := hk5.below hb5 hl5
    have hl5 := hk5.lt
    have HB := Lib.hid (HB.out.trans (hb5.mono HB.out.size))
    clear hb5 hcx hsx
    dsimp only
    by_cases h0 : ckT oneE (.mk p ks) = 0
    case neg =>
      have h0' : (ckT oneE (.mk p ks) == 0) = false := by rw [beq_eq_false_iff_ne]; exact h0
      generalize ckT oneE (.mk p ks) = rx at *
      repeat' (first | go_values | go_skip | go_guarded | go_step | go_upon)
      exact bodyPost_ret (v := .bool true) (by simp [results, Tryd.results4, go_sem]) rfl ⟨rfl, HB.out⟩
    have H0 := Lib.hid h0
    rw [h0]
    clear h0
    obtain ⟨m, hm⟩ : ∃ m, m = n % 20 := ⟨_, rfl⟩
    have hm20 : m < 20 := by omega
    have hrem : ((n : Int).tmod 20) = (m : Int) := by rw [hm]; exact (Int.ofNat_tmod n 20).symm
    clear hm
    have hk0 : Bk (W5.alloc (.cells #[.int .i64 0, .int .i64 0, .int .i64 0, .int .i64 0, .string ⟨#[]⟩, .bool false, .int .i64 0, .int .i64 0, .int .i64 0, .bool false, .bool false, .int .i64 0, .int .i64 0, .bool false, .bool false, .int .i64 0, .int .i64 0, .slice none 0 0] 43)) W5.heap.size 43 (ec zp (.slice none 0 0)).toArray := Bk.new _ _ _
    repeat' (first | ((with_reducible show Oper.wp _ _ _ _ _ _); apply ld_p; exact rfl; exact rfl; assumption; go_simp) | ((with_reducible show Oper.wp _ _ _ _ _ _); apply stop_s; exact rfl) | go_values | go_skip | go_guarded | go_step | go_upon)
    refine Lib.hid ?_
    apply st_p
    · exact rfl
    · exact rfl
    · exact rfl
    · exact hk0
    · exact rfl
    intro W6 hk7 hK6 hz6
    have hb6 := made_box hK6
    have hrow6 : RowF treeF W6 (fun i => i < W6.heap.size ∧ i ≠ W5.heap.size) A2 ks.length ks := HX.out.2.1.2.move (Move.of_below hb6 (fun i hi => hi) fun i hi => ⟨by have := hb6.size; omega, by omega⟩)
    have HL : Hid (BrL W6 W5.heap.size (brk 0 (.mk p ks)) W6) := Lib.hid ⟨Below.refl _ _, A2, c2, hk7, HX.out.2.1.1, hrow6⟩
    have HWG := Lib.hid HB.out.size
    have HR6 : Hid (ks.length ≤ c2 ∧ RowF treeF W6 (fun i => i < W5.heap.size) A2 ks.length ks) := Lib.hid ⟨HX.out.2.1.1, HX.out.2.1.2.move (Move.of_below hb6 (fun i hi => hi) fun i hi => hi)⟩
    have hg76 := hk7.lt
    have HX := Lib.hid (And.intro (HX.out.1.below hb6) (And.intro (HX.out.2.1.below hb6) HX.out.2.2))
    have HB := Lib.hid (HB.out.trans (hb6.mono HB.out.size))
    have hk5 := hk5.below hb6 hl5
    have hl57 : g5 < W5.heap.size := hl5
    clear hk0 hK6 hz6 hb6 hl5 hrow6 hk7
    generalize W5.heap.size = g7 at *
    go_simp
    repeat' (first | go_values | go_skip | go_guarded | go_step | go_upon)
    go_loopw [8] (fun i wr => ∃ j : Nat, i = .int .i64 j ∧ j ≤ m ∧ Hid (BrL W6 g7 (brk j (.mk p ks)) wr)) (fun i _ => m - (intOf i).toNat)
    case atStart => exact ⟨0, rfl, Nat.zero_le _, HL⟩
    case round =>
      obtain ⟨j, rfl, hj, HJ⟩ := hrel
      clear HL
      obtain ⟨A3, c3, hkg, hac, hat⟩ := HJ.out.row
      have HA := Lib.hid (And.intro hac hat)
      clear hat hac
      generalize hp : (brk j (.mk p ks)).pay = p3 at *
      generalize hk : (brk j (.mk p ks)).kids = ks3 at *
      have HP := Lib.hid (And.intro hp hk)
      clear hp hk
      by_cases hjn : j < m
      · have hjn' : (j : Int) < (m : Int) := by clear hrem; omega
        repeat' (first | ((with_reducible show Oper.wp _ _ _ _ _ _); apply ld_p; exact rfl; exact rfl; assumption; go_simp) | ((with_reducible show Oper.wp _ _ _ _ _ _); apply bs_1; exact rfl; exact rfl; go_simp) | ((with_reducible show Oper.wp _ _ _ _ _ _); apply stop_b; exact rfl) | go_values | go_skip | go_guarded | go_step | go_upon)
        refine Lib.hid ?_
        refine wp_b (v := .agg (ec parP (.slice (some ⟨wr.heap.size, 0, none⟩) 1 1)).toArray) (by kernel_rfl) ?_
        have hb4 := bel0 wr (.cells (ec p3 (.slice A3 ks3.length c3)).toArray 43)
        have hkn := Bk.new wr 43 (ec p3 (.slice A3 ks3.length c3)).toArray
        have hkg4 := hkg.below hb4 hkg.lt
        have hz4 : (wr.alloc (.cells (ec p3 (.slice A3 ks3.length c3)).toArray 43)).heap.size = wr.heap.size + 1 := by simp
        have HY := Lib.hid (And.intro hb4 (And.intro hkn hz4))
        have hgl := hkg.lt
        clear hb4 hkn hz4 hkg
        generalize wr.alloc (.cells (ec p3 (.slice A3 ks3.length c3)).toArray 43) = w4 at *
        go_simp
        repeat' (first | ((with_reducible show Oper.wp _ _ _ _ _ _); apply stop_s; exact rfl) | go_values | go_skip | go_guarded | go_step | go_upon)
        refine Lib.hid ?_
        apply st_p
        · exact rfl
        · exact rfl
        · exact rfl
        · exact hkg4
        · exact rfl
        intro W7 hm5 hK5 hz5
        have HQ := Lib.hid (And.intro hm5 (And.intro hK5 hz5))
        clear hm5 hK5 hz5 hkg4
        go_simp
        repeat' (first | go_values | go_skip | go_guarded | go_step | go_upon)
        go_roundw
        case rel =>
          obtain ⟨hb4, hkn, hz4⟩ := HY.out
          obtain ⟨hm5, hK5, hz5⟩ := HQ.out
          obtain ⟨l1, -⟩ := HJ.out
          obtain ⟨hp, hk⟩ := HP.out
          clear hrem
          have hb45 : Below g7 W6 W7 := l1.trans ((hb4.mono (Nat.le_of_lt hgl)).trans (hK5.below (B := g7) (by omega) fun i hi e => by omega))
          have hkn5 := hK5.bk hkn (by omega)
          have hrow : RowF treeF W7 (fun i => i < W7.heap.size ∧ i ≠ g7) A3 ks3.length ks3 := (HA.out.2.move (Move.of_below hb4 (fun i hi => hi.1) fun i hi => hi)).move (hK5.move (fun i hi => ⟨by have := hi.1; omega, hi.2⟩) fun i hi => ⟨by have := hi.1; omega, hi.2⟩)
          have hone := row_oneX (F := fun i => i < W7.heap.size ∧ i ≠ g7) hkn5 ⟨by omega, by omega⟩ HA.out.1 hrow
          subst hp hk
          rw [← brk_parts] at hone
          exact ⟨j + 1, by go_num, by omega, Lib.hid ⟨hb45, _, 1, hm5, Nat.le_refl _, hone⟩⟩
        case measure => simp [intOf]; omega
      · have hjn' : ¬ (j : Int) < (m : Int) := by clear hrem; omega
        obtain rfl : j = m := by clear hrem; omega
        repeat' (first | ((with_reducible show Oper.wp _ _ _ _ _ _); apply ld_p; exact rfl; exact rfl; assumption; go_simp) | go_values | go_skip | go_guarded | go_step | go_upon)
        have hk5w := hk5.below HJ.out.bel hl57
        have h7lt := hkg.lt
        have h5lt := hk5w.lt
        have hat5 : AtT wr p ks A2 c2 := ⟨HR6.out.1, HR6.out.2.move (Move.of_below HJ.out.bel (fun i hi => hi) fun i hi => by omega)⟩
        have hat7 : AtT wr p3 ks3 A3 c3 := ⟨HA.out.1, HA.out.2.move (Move.wide fun i hi => hi.1)⟩
        have hC5 : cntT (.mk p ks) ≤ 200 := HF.out.1
        have hT3 : Tr.mk p3 ks3 = brk j (.mk p ks) := by
          obtain ⟨hp, hk⟩ := HP.out
          subst hp hk
          exact (brk_parts _ _).symm
        have hC7 : cntT (.mk p3 ks3) ≤ 100000 := by rw [hT3, brk_cnt]; clear hrem; omega
        have HT := Lib.hid (And.intro hT3 (And.intro hm20 (And.intro hC5 hC7)))
        have HQ := Lib.hid (And.intro hat5 hat7)
        have HB := Lib.hid (HB.out.trans (HJ.out.bel.mono HWG.out))
        clear hrem hT3 hm20 hC5 hC7 hat5 hat7 hjn hjn' hj HJ HP HA HR6
        refine wp_region_phases (S := (fun _ W => Below wr.heap.size wr W)) (E := (fun W W' => Below W.heap.size W W')) [] [(5, Is (.pointer (some ⟨g5, 0, none⟩))), (7, Is (.pointer (some ⟨g7, 0, none⟩))), (6, Is (.int .i64 j))] [(34, Is (.agg (ec p (.slice A2 ks.length c2)).toArray)), (35, RfV (rfT (.mk p ks))), (36, Is (.agg (ec p3 (.slice A3 ks3.length c3)).toArray)), (37, RfV (rfT (.mk p3 ks3))), (9, RfV (rfT (.mk p ks))), (10, RfV (rfT (.mk p3 ks3)))]
          [.op [5] none, .op [34] none, .op [7] none, .op [36] none, .op [35] none, .op [37] none] (by as_aux_lemma => kernel_rfl) ?_ ?_ ?_ ?_ ?_ ⟨stable_is _ _, stable_is _ _, stable_is _ _, stable_is _ _, fun v w w' hE h => RfV.below h hE, stable_is _ _, fun v w w' hE h => RfV.below h hE, fun v w w' hE h => RfV.below h hE, fun v w w' hE h => RfV.below h hE, trivial⟩ ?_ (Below.refl _ _).drew ?_ ?_
        · as_aux_lemma => kernel_rfl
        · as_aux_lemma => kernel_rfl
        · as_aux_lemma => kernel_rfl
        · as_aux_lemma => kernel_rfl
        · as_aux_lemma => kernel_rfl
        · exact ⟨rfl, rfl, rfl, trivial⟩
        · refine ⟨?_, ?_, ?_, ?_, ?_, ?_, trivial⟩
          · as_aux_lemma =>
              intro vals a W hS hL
              have e5 : a.tmps.getD 5 undef = .pointer (some ⟨g5, 0, none⟩) := hL.1
              clear hL
              refine lands_v (run_ld (.tmp 5) rfl e5 (hk5w.below hS h5lt)) ?_
              exact ⟨⟨fun d hd => by injection hd with hd; subst hd; rfl, fun h => by cases h⟩, hS, Below.refl _ _⟩
          · as_aux_lemma =>
              intro vals a W hS hL
              have e34 : a.tmps.getD 34 undef = .agg (ec p (.slice A2 ks.length c2)).toArray := hL.1
              clear hL
              go_simp
              refine (refs_row (HQ.out.1.below hS) (Nat.le_trans HT.out.2.2.1 (by omega))).mono ?_
              rintro e W2 ⟨vo, rfl, hr, hb⟩
              exact ⟨_, rfl, ⟨fun d hd => by injection hd with hd; subst hd; exact hr, fun h => by cases h⟩, hS.trans (hb.mono hS.size), hb⟩
          · as_aux_lemma =>
              intro vals a W hS hL
              have e7 : a.tmps.getD 7 undef = .pointer (some ⟨g7, 0, none⟩) := hL.1
              clear hL
              refine lands_v (run_ld (.tmp 7) rfl e7 (hkg.below hS h7lt)) ?_
              exact ⟨⟨fun d hd => by injection hd with hd; subst hd; rfl, fun h => by cases h⟩, hS, Below.refl _ _⟩
          · as_aux_lemma =>
              intro vals a W hS hL
              have e36 : a.tmps.getD 36 undef = .agg (ec p3 (.slice A3 ks3.length c3)).toArray := hL.1
              clear hL
              go_simp
              refine (refs_row (HQ.out.2.below hS) HT.out.2.2.2).mono ?_
              rintro e W2 ⟨vo, rfl, hr, hb⟩
              exact ⟨_, rfl, ⟨fun d hd => by injection hd with hd; subst hd; exact hr, fun h => by cases h⟩, hS.trans (hb.mono hS.size), hb⟩
          · as_aux_lemma =>
              intro vals a W hS hL
              have e35 := hL.1
              clear hL
              rw [Array.getD_eq_getD_getElem?] at e35
              go_simp
              exact ⟨⟨fun d hd => by injection hd with hd; subst hd; exact e35, fun h => by cases h⟩, hS, Below.refl _ _⟩
          · as_aux_lemma =>
              intro vals a W hS hL
              have e37 := hL.1
              clear hL
              rw [Array.getD_eq_getD_getElem?] at e37
              go_simp
              exact ⟨⟨fun d hd => by injection hd with hd; subst hd; exact e37, fun h => by cases h⟩, hS, Below.refl _ _⟩
        intro a W' vals hd hsz hT hF hv hP hS
        obtain rfl : vals = [] := List.eq_nil_of_length_eq_zero hv
        have hS2 : Below wr.heap.size wr W' := hS
        have e5 : a.tmps.getD 5 undef = .pointer (some ⟨g5, 0, none⟩) := hT 5 (by simp)
        have e6 : a.tmps.getD 6 undef = .int .i64 j := hT 6 (by simp)
        have e7 : a.tmps.getD 7 undef = .pointer (some ⟨g7, 0, none⟩) := hT 7 (by simp)
        have e9 : RfV (rfT (.mk p ks)) (a.tmps.getD 9 undef) W' := hT 9 (by simp)
        have e10 : RfV (rfT (.mk p3 ks3)) (a.tmps.getD 10 undef) W' := hT 10 (by simp)
        rw [HT.out.1, brk_rf] at e10
        obtain ⟨A9, c9, e9, hc9, hr9⟩ := e9
        obtain ⟨A10, c10, e10, hc10, hr10⟩ := e10
        have HR := Lib.hid (And.intro (And.intro hc9 hr9) (And.intro hc10 hr10))
        clear hT hF hP hS hc9 hr9 hc10 hr10
        rw [act_lit 92 a hd hsz]
        simp only [List.range, List.range.loop, List.map, e5, e6, e7, e9, e10]
        clear e5 e6 e7 e9 e10 hsz hd
        generalize a.tmps.getD 0 undef = y0
        generalize a.tmps.getD 1 undef = y1
        generalize a.tmps.getD 2 undef = y2
        generalize a.tmps.getD 3 undef = y3
        generalize a.tmps.getD 4 undef = y4
        generalize a.tmps.getD 8 undef = y8
        generalize a.tmps.getD 11 undef = y11
        generalize a.tmps.getD 12 undef = y12
        generalize a.tmps.getD 13 undef = y13
        generalize a.tmps.getD 14 undef = y14
        generalize a.tmps.getD 15 undef = y15
        generalize a.tmps.getD 16 undef = y16
        generalize a.tmps.getD 17 undef = y17
        generalize a.tmps.getD 18 undef = y18
        generalize a.tmps.getD 19 undef = y19
        generalize a.tmps.getD 20 undef = y20
        generalize a.tmps.getD 21 undef = y21
        generalize a.tmps.getD 22 undef = y22
        generalize a.tmps.getD 23 undef = y23
        generalize a.tmps.getD 24 undef = y24
        generalize a.tmps.getD 25 undef = y25
        generalize a.tmps.getD 26 undef = y26
        generalize a.tmps.getD 27 undef = y27
        generalize a.tmps.getD 28 undef = y28
        generalize a.tmps.getD 29 undef = y29
        generalize a.tmps.getD 30 undef = y30
        generalize a.tmps.getD 31 undef = y31
        generalize a.tmps.getD 32 undef = y32
        generalize a.tmps.getD 33 undef = y33
        generalize a.tmps.getD 34 undef = y34
        generalize a.tmps.getD 35 undef = y35
        generalize a.tmps.getD 36 undef = y36
        generalize a.tmps.getD 37 undef = y37
        generalize a.tmps.getD 38 undef = y38
        generalize a.tmps.getD 39 undef = y39
        generalize a.tmps.getD 40 undef = y40
        generalize a.tmps.getD 41 undef = y41
        generalize a.tmps.getD 42 undef = y42
        generalize a.tmps.getD 43 undef = y43
        generalize a.tmps.getD 44 undef = y44
        generalize a.tmps.getD 45 undef = y45
        generalize a.tmps.getD 46 undef = y46
        generalize a.tmps.getD 47 undef = y47
        generalize a.tmps.getD 48 undef = y48
        generalize a.tmps.getD 49 undef = y49
        generalize a.tmps.getD 50 undef = y50
        generalize a.tmps.getD 51 undef = y51
        generalize a.tmps.getD 52 undef = y52
        generalize a.tmps.getD 53 undef = y53
        generalize a.tmps.getD 54 undef = y54
        generalize a.tmps.getD 55 undef = y55
        generalize a.tmps.getD 56 undef = y56
        generalize a.tmps.getD 57 undef = y57
        generalize a.tmps.getD 58 undef = y58
        generalize a.tmps.getD 59 undef = y59
        generalize a.tmps.getD 60 undef = y60
        generalize a.tmps.getD 61 undef = y61
        generalize a.tmps.getD 62 undef = y62
        generalize a.tmps.getD 63 undef = y63
        generalize a.tmps.getD 64 undef = y64
        generalize a.tmps.getD 65 undef = y65
        generalize a.tmps.getD 66 undef = y66
        generalize a.tmps.getD 67 undef = y67
        generalize a.tmps.getD 68 undef = y68
        generalize a.tmps.getD 69 undef = y69
        generalize a.tmps.getD 70 undef = y70
        generalize a.tmps.getD 71 undef = y71
        generalize a.tmps.getD 72 undef = y72
        generalize a.tmps.getD 73 undef = y73
        generalize a.tmps.getD 74 undef = y74
        generalize a.tmps.getD 75 undef = y75
        generalize a.tmps.getD 76 undef = y76
        generalize a.tmps.getD 77 undef = y77
        generalize a.tmps.getD 78 undef = y78
        generalize a.tmps.getD 79 undef = y79
        generalize a.tmps.getD 80 undef = y80
        generalize a.tmps.getD 81 undef = y81
        generalize a.tmps.getD 82 undef = y82
        generalize a.tmps.getD 83 undef = y83
        generalize a.tmps.getD 84 undef = y84
        generalize a.tmps.getD 85 undef = y85
        generalize a.tmps.getD 86 undef = y86
        generalize a.tmps.getD 87 undef = y87
        generalize a.tmps.getD 88 undef = y88
        generalize a.tmps.getD 89 undef = y89
        generalize a.tmps.getD 90 undef = y90
        generalize a.tmps.getD 91 undef = y91
        have hk5 := hk5w.below hS2 h5lt
        have hk7 := hkg.below hS2 h7lt
        have HQ := Lib.hid (And.intro (HQ.out.1.below hS2) (HQ.out.2.below hS2))
        have HB := Lib.hid (HB.out.trans (hS2.mono HB.out.size))
        clear hk5w h5lt hkg h7lt hS2
        have h5lt := hk5.lt
        have h7lt := hk7.lt
        generalize W' = W9 at *
        repeat' (first | go_values | go_skip | go_guarded | go_step | go_upon)
        have HDx : Hid (∀ W, Below W9.heap.size W9 W → Calls Tryd.prog 10 #[.agg (ec p (.slice A2 ks.length c2)).toArray] W fun e W2 => e = .returned (.int .i64 (dpT (.mk p ks) : Nat)) ∧ Below W.heap.size W W2) := Lib.hid fun W hW => depth_any (HQ.out.1.below hW) (Nat.le_trans HT.out.2.2.1 (by omega))
        have HDy : Hid (∀ W, Below W9.heap.size W9 W → Calls Tryd.prog 10 #[.agg (ec p3 (.slice A3 ks3.length c3)).toArray] W fun e W2 => e = .returned (.int .i64 (dpT (.mk p3 ks3) : Nat)) ∧ Below W.heap.size W W2) := Lib.hid fun W hW => depth_any (HQ.out.2.below hW) HT.out.2.2.2
        have HNx : Hid (∀ W, Below W9.heap.size W9 W → Calls Tryd.prog 11 #[.agg (ec p (.slice A2 ks.length c2)).toArray] W fun e W2 => e = .returned (.int .i64 (cntT (.mk p ks) : Nat)) ∧ Below W.heap.size W W2) := Lib.hid fun W hW => count_any (HQ.out.1.below hW) (Nat.le_trans HT.out.2.2.1 (by omega))
        have HNy : Hid (∀ W, Below W9.heap.size W9 W → Calls Tryd.prog 11 #[.agg (ec p3 (.slice A3 ks3.length c3)).toArray] W fun e W2 => e = .returned (.int .i64 (cntT (.mk p3 ks3) : Nat)) ∧ Below W.heap.size W W2) := Lib.hid fun W hW => count_any (HQ.out.2.below hW) HT.out.2.2.2
        have HSm : Hid (∀ W, Below W9.heap.size W9 W → Calls Tryd.prog 13 #[.agg (ec p (.slice A2 ks.length c2)).toArray, .agg (ec p3 (.slice A3 ks3.length c3)).toArray] W fun e W2 => e = .returned (.bool (decide (j = 0))) ∧ Below W.heap.size W W2) := Lib.hid fun W hW => by
          refine (same_t (HQ.out.1.below hW) (HQ.out.2.below hW) (Nat.le_trans HT.out.2.2.1 (by omega)) HT.out.2.2.2).mono ?_
          rintro e W2 ⟨b, rfl, hbe, hb⟩
          refine ⟨?_, hb⟩
          rw [HT.out.1, brk_same] at hbe
          congr 2
          rw [Bool.eq_iff_iff, decide_eq_true_iff]
          exact hbe
        have hdp : dpT (.mk p3 ks3) = dpT (.mk p ks) + j := by rw [HT.out.1, brk_dp]
        have hcn : cntT (.mk p3 ks3) = cntT (.mk p ks) + j := by rw [HT.out.1, brk_cnt]
        have hdb : dpT (.mk p ks) ≤ 200 := Nat.le_trans (dp_cntT _) HT.out.2.2.1
        have hcb : cntT (.mk p ks) ≤ 200 := HT.out.2.2.1
        have hjb : j < 20 := HT.out.2.1
        rw [hdp] at HDy
        rw [hcn] at HNy
        have HP := Lib.hid (And.intro hdp hcn)
        clear hdp hcn
        generalize hdx : dpT (.mk p ks) = dx at *
        generalize hnx : cntT (.mk p ks) = nx at *
        have hw1 : IntKind.i64.wrap ((dx : Int) + (j : Int)) = ((dx + j : Nat) : Int) := (IntWalk.i64_in _ (by omega)).trans (by omega)
        have hw2 : IntKind.i64.wrap ((nx : Int) + (j : Int)) = ((nx + j : Nat) : Int) := (IntWalk.i64_in _ (by omega)).trans (by omega)
        obtain ⟨sm, hsm⟩ : ∃ sm, sm = decide (j = 0) := ⟨_, rfl⟩
        have hj1 : ((j : Int) == 0) = sm := by
          rw [hsm, Bool.eq_iff_iff, beq_iff_eq, decide_eq_true_iff]
          omega
        rw [← hsm] at HSm
        have hsn : (sm != sm) = false := by cases sm <;> rfl
        clear hsm
        refine wp_region_phu (S := (fun _ W => Below W9.heap.size W9 W)) (E := (fun _ _ => True)) [] [(5, Is (.pointer (some ⟨g5, 0, none⟩))), (6, Is (.int .i64 j)), (7, Is (.pointer (some ⟨g7, 0, none⟩))), (9, Is (.slice A9 (rfT (.mk p ks)).length c9)), (10, Is (.slice A10 (rfT (.mk p ks)).length c10))] [(38, Is (.agg (ec p3 (.slice A3 ks3.length c3)).toArray)), (39, Is (.int .i64 ((dx + j : Nat) : Int))), (40, Is (.agg (ec p (.slice A2 ks.length c2)).toArray)), (41, Is (.int .i64 (dx : Nat))), (42, Is (.int .i64 j)), (43, Is (.int .i64 ((dx + j : Nat) : Int))), (44, Is (.bool false)), (45, Is (.bool false)), (46, Is (.agg (ec p3 (.slice A3 ks3.length c3)).toArray)), (47, Is (.int .i64 ((nx + j : Nat) : Int))), (48, Is (.agg (ec p (.slice A2 ks.length c2)).toArray)), (49, Is (.int .i64 (nx : Nat))), (50, Is (.int .i64 j)), (51, Is (.int .i64 ((nx + j : Nat) : Int))), (52, Is (.bool false)), (53, Is (.bool false)), (54, Is (.bool false)), (55, Is (.slice A9 (rfT (.mk p ks)).length c9)), (56, Is (.int .i64 (rfT (.mk p ks)).length)), (57, Is (.slice A10 (rfT (.mk p ks)).length c10)), (58, Is (.int .i64 (rfT (.mk p ks)).length)), (59, Is (.bool false)), (60, Is (.bool false)), (61, Is (.bool false)), (62, Is (.agg (ec p (.slice A2 ks.length c2)).toArray)), (63, Is (.agg (ec p3 (.slice A3 ks3.length c3)).toArray)), (64, Is (.bool sm)), (65, Is (.int .i64 j)), (66, Is (.bool sm)), (67, Is (.bool false)), (68, Is (.bool false))]
          [.op [7] none, .op [38] none, .op [5] none, .op [40] none, .op [6] none, .op [41, 42] none, .op [39, 43] none, .op [44] none, .op [7, 45] (some (45, false)), .op [46, 45] (some (45, false)), .op [5, 45] (some (45, false)), .op [48, 45] (some (45, false)), .op [6, 45] (some (45, false)), .op [49, 50, 45] (some (45, false)), .op [47, 51, 45] (some (45, false)), .op [45, 52] none, .op [53] none, .op [9, 54] (some (54, false)), .op [55, 54] (some (54, false)), .op [10, 54] (some (54, false)), .op [57, 54] (some (54, false)), .op [56, 58, 54] (some (54, false)), .op [54, 59] none, .op [60] none, .op [5, 61] (some (61, false)), .op [7, 61] (some (61, false)), .op [62, 63, 61] (some (61, false)), .op [6, 61] (some (61, false)), .op [65, 61] (some (61, false)), .op [64, 66, 61] (some (61, false)), .op [61, 67] none] (by as_aux_lemma => kernel_rfl) ?_ ?_ ?_ ?_ ?_ ⟨stable_is _ _, stable_is _ _, stable_is _ _, stable_is _ _, stable_is _ _, stable_is _ _, stable_is _ _, stable_is _ _, stable_is _ _, stable_is _ _, stable_is _ _, stable_is _ _, stable_is _ _, stable_is _ _, stable_is _ _, stable_is _ _, stable_is _ _, stable_is _ _, stable_is _ _, stable_is _ _, stable_is _ _, stable_is _ _, stable_is _ _, stable_is _ _, stable_is _ _, stable_is _ _, stable_is _ _, stable_is _ _, stable_is _ _, stable_is _ _, stable_is _ _, stable_is _ _, stable_is _ _, stable_is _ _, stable_is _ _, stable_is _ _, trivial⟩ ?_ (Below.refl _ _).drew ?_ ?_
        · as_aux_lemma => kernel_rfl
        · as_aux_lemma => kernel_rfl
        · as_aux_lemma => kernel_rfl
        · as_aux_lemma => kernel_rfl
        · as_aux_lemma => kernel_rfl
        · exact ⟨rfl, rfl, rfl, rfl, rfl, trivial⟩
        · refine ⟨?_, ?_, ?_, ?_, ?_, ?_, ?_, ?_, ?_, ?_, ?_, ?_, ?_, ?_, ?_, ?_, ?_, ?_, ?_, ?_, ?_, ?_, ?_, ?_, ?_, ?_, ?_, ?_, ?_, ?_, ?_, trivial⟩
          · as_aux_lemma =>
              intro vals a W hS hL
              have e7 : a.tmps.getD 7 undef = .pointer (some ⟨g7, 0, none⟩) := hL.1
              clear hL
              refine lands_v (run_ld (.tmp 7) rfl e7 (hk7.below hS h7lt)) ?_
              exact ⟨⟨fun d hd => by injection hd with hd; subst hd; rfl, fun h => by cases h⟩, hS, trivial⟩
          · as_aux_lemma =>
              intro vals a W hS hL
              have e38 : a.tmps.getD 38 undef = .agg (ec p3 (.slice A3 ks3.length c3)).toArray := hL.1
              clear hL
              go_simp
              refine (HDy.out W hS).mono ?_
              rintro e W2 ⟨rfl, hb⟩
              exact ⟨_, rfl, ⟨fun d hd => by injection hd with hd; subst hd; rfl, fun h => by cases h⟩, hS.trans (hb.mono hS.size), trivial⟩
          · as_aux_lemma =>
              intro vals a W hS hL
              have e5 : a.tmps.getD 5 undef = .pointer (some ⟨g5, 0, none⟩) := hL.1
              clear hL
              refine lands_v (run_ld (.tmp 5) rfl e5 (hk5.below hS h5lt)) ?_
              exact ⟨⟨fun d hd => by injection hd with hd; subst hd; rfl, fun h => by cases h⟩, hS, trivial⟩
          · as_aux_lemma =>
              intro vals a W hS hL
              have e40 : a.tmps.getD 40 undef = .agg (ec p (.slice A2 ks.length c2)).toArray := hL.1
              clear hL
              go_simp
              refine (HDx.out W hS).mono ?_
              rintro e W2 ⟨rfl, hb⟩
              exact ⟨_, rfl, ⟨fun d hd => by injection hd with hd; subst hd; rfl, fun h => by cases h⟩, hS.trans (hb.mono hS.size), trivial⟩
          · as_aux_lemma =>
              intro vals a W hS hL
              have e6 : a.tmps.getD 6 undef = .int .i64 j := hL.1
              clear hL
              go_simp
              exact ⟨⟨fun d hd => by injection hd with hd; subst hd; rfl, fun h => by cases h⟩, hS, trivial⟩
          · as_aux_lemma =>
              intro vals a W hS hL
              have e41 : a.tmps.getD 41 undef = .int .i64 (dx : Nat) := hL.1
              have e42 : a.tmps.getD 42 undef = .int .i64 j := hL.2.1
              clear hL
              go_simp
              exact ⟨⟨fun d hd => by injection hd with hd; subst hd; rfl, fun h => by cases h⟩, hS, trivial⟩
          · as_aux_lemma =>
              intro vals a W hS hL
              have e39 : a.tmps.getD 39 undef = .int .i64 ((dx + j : Nat) : Int) := hL.1
              have e43 : a.tmps.getD 43 undef = .int .i64 ((dx + j : Nat) : Int) := hL.2.1
              clear hL
              go_simp
              exact ⟨⟨fun d hd => by injection hd with hd; subst hd; rfl, fun h => by cases h⟩, hS, trivial⟩
          · as_aux_lemma =>
              intro vals a W hS hL
              have e44 : a.tmps.getD 44 undef = .bool false := hL.1
              clear hL
              go_simp
              exact ⟨⟨fun d hd => by injection hd with hd; subst hd; rfl, fun h => by cases h⟩, hS, trivial⟩
          · as_aux_lemma =>
              intro vals a W hS hL
              have e7 : a.tmps.getD 7 undef = .pointer (some ⟨g7, 0, none⟩) := hL.1
              have e45 : a.tmps.getD 45 undef = .bool false := hL.2.1
              clear hL
              refine .inl ⟨false, e45, ?_⟩
              rw [if_pos rfl]
              refine lands_v (run_ld (.tmp 7) rfl e7 (hk7.below hS h7lt)) ?_
              exact ⟨⟨fun d hd => by injection hd with hd; subst hd; rfl, fun h => by cases h⟩, hS, trivial⟩
          · as_aux_lemma =>
              intro vals a W hS hL
              have e46 : a.tmps.getD 46 undef = .agg (ec p3 (.slice A3 ks3.length c3)).toArray := hL.1
              have e45 : a.tmps.getD 45 undef = .bool false := hL.2.1
              clear hL
              refine .inl ⟨false, e45, ?_⟩
              rw [if_pos rfl]
              go_simp
              refine (HNy.out W hS).mono ?_
              rintro e W2 ⟨rfl, hb⟩
              exact ⟨_, rfl, ⟨fun d hd => by injection hd with hd; subst hd; rfl, fun h => by cases h⟩, hS.trans (hb.mono hS.size), trivial⟩
          · as_aux_lemma =>
              intro vals a W hS hL
              have e5 : a.tmps.getD 5 undef = .pointer (some ⟨g5, 0, none⟩) := hL.1
              have e45 : a.tmps.getD 45 undef = .bool false := hL.2.1
              clear hL
              refine .inl ⟨false, e45, ?_⟩
              rw [if_pos rfl]
              refine lands_v (run_ld (.tmp 5) rfl e5 (hk5.below hS h5lt)) ?_
              exact ⟨⟨fun d hd => by injection hd with hd; subst hd; rfl, fun h => by cases h⟩, hS, trivial⟩
          · as_aux_lemma =>
              intro vals a W hS hL
              have e48 : a.tmps.getD 48 undef = .agg (ec p (.slice A2 ks.length c2)).toArray := hL.1
              have e45 : a.tmps.getD 45 undef = .bool false := hL.2.1
              clear hL
              refine .inl ⟨false, e45, ?_⟩
              rw [if_pos rfl]
              go_simp
              refine (HNx.out W hS).mono ?_
              rintro e W2 ⟨rfl, hb⟩
              exact ⟨_, rfl, ⟨fun d hd => by injection hd with hd; subst hd; rfl, fun h => by cases h⟩, hS.trans (hb.mono hS.size), trivial⟩
          · as_aux_lemma =>
              intro vals a W hS hL
              have e6 : a.tmps.getD 6 undef = .int .i64 j := hL.1
              have e45 : a.tmps.getD 45 undef = .bool false := hL.2.1
              clear hL
              refine .inl ⟨false, e45, ?_⟩
              rw [if_pos rfl]
              go_simp
              exact ⟨⟨fun d hd => by injection hd with hd; subst hd; rfl, fun h => by cases h⟩, hS, trivial⟩
          · as_aux_lemma =>
              intro vals a W hS hL
              have e49 : a.tmps.getD 49 undef = .int .i64 (nx : Nat) := hL.1
              have e50 : a.tmps.getD 50 undef = .int .i64 j := hL.2.1
              have e45 : a.tmps.getD 45 undef = .bool false := hL.2.2.1
              clear hL
              refine .inl ⟨false, e45, ?_⟩
              rw [if_pos rfl]
              go_simp
              exact ⟨⟨fun d hd => by injection hd with hd; subst hd; rfl, fun h => by cases h⟩, hS, trivial⟩
          · as_aux_lemma =>
              intro vals a W hS hL
              have e47 : a.tmps.getD 47 undef = .int .i64 ((nx + j : Nat) : Int) := hL.1
              have e51 : a.tmps.getD 51 undef = .int .i64 ((nx + j : Nat) : Int) := hL.2.1
              have e45 : a.tmps.getD 45 undef = .bool false := hL.2.2.1
              clear hL
              refine .inl ⟨false, e45, ?_⟩
              rw [if_pos rfl]
              go_simp
              exact ⟨⟨fun d hd => by injection hd with hd; subst hd; rfl, fun h => by cases h⟩, hS, trivial⟩
          · as_aux_lemma =>
              intro vals a W hS hL
              have e45 : a.tmps.getD 45 undef = .bool false := hL.1
              have e52 : a.tmps.getD 52 undef = .bool false := hL.2.1
              clear hL
              go_simp
              exact ⟨⟨fun d hd => by injection hd with hd; subst hd; rfl, fun h => by cases h⟩, hS, trivial⟩
          · as_aux_lemma =>
              intro vals a W hS hL
              have e53 : a.tmps.getD 53 undef = .bool false := hL.1
              clear hL
              go_simp
              exact ⟨⟨fun d hd => by injection hd with hd; subst hd; rfl, fun h => by cases h⟩, hS, trivial⟩
          · as_aux_lemma =>
              intro vals a W hS hL
              have e9 : a.tmps.getD 9 undef = .slice A9 (rfT (.mk p ks)).length c9 := hL.1
              have e54 : a.tmps.getD 54 undef = .bool false := hL.2.1
              clear hL
              refine .inl ⟨false, e54, ?_⟩
              rw [if_pos rfl]
              go_simp
              exact ⟨⟨fun d hd => by injection hd with hd; subst hd; rfl, fun h => by cases h⟩, hS, trivial⟩
          · as_aux_lemma =>
              intro vals a W hS hL
              have e55 : a.tmps.getD 55 undef = .slice A9 (rfT (.mk p ks)).length c9 := hL.1
              have e54 : a.tmps.getD 54 undef = .bool false := hL.2.1
              clear hL
              refine .inl ⟨false, e54, ?_⟩
              rw [if_pos rfl]
              go_simp
              exact ⟨⟨fun d hd => by injection hd with hd; subst hd; rfl, fun h => by cases h⟩, hS, trivial⟩
          · as_aux_lemma =>
              intro vals a W hS hL
              have e10 : a.tmps.getD 10 undef = .slice A10 (rfT (.mk p ks)).length c10 := hL.1
              have e54 : a.tmps.getD 54 undef = .bool false := hL.2.1
              clear hL
              refine .inl ⟨false, e54, ?_⟩
              rw [if_pos rfl]
              go_simp
              exact ⟨⟨fun d hd => by injection hd with hd; subst hd; rfl, fun h => by cases h⟩, hS, trivial⟩
          · as_aux_lemma =>
              intro vals a W hS hL
              have e57 : a.tmps.getD 57 undef = .slice A10 (rfT (.mk p ks)).length c10 := hL.1
              have e54 : a.tmps.getD 54 undef = .bool false := hL.2.1
              clear hL
              refine .inl ⟨false, e54, ?_⟩
              rw [if_pos rfl]
              go_simp
              exact ⟨⟨fun d hd => by injection hd with hd; subst hd; rfl, fun h => by cases h⟩, hS, trivial⟩
          · as_aux_lemma =>
              intro vals a W hS hL
              have e56 : a.tmps.getD 56 undef = .int .i64 (rfT (.mk p ks)).length := hL.1
              have e58 : a.tmps.getD 58 undef = .int .i64 (rfT (.mk p ks)).length := hL.2.1
              have e54 : a.tmps.getD 54 undef = .bool false := hL.2.2.1
              clear hL
              refine .inl ⟨false, e54, ?_⟩
              rw [if_pos rfl]
              go_simp
              exact ⟨⟨fun d hd => by injection hd with hd; subst hd; rfl, fun h => by cases h⟩, hS, trivial⟩
          · as_aux_lemma =>
              intro vals a W hS hL
              have e54 : a.tmps.getD 54 undef = .bool false := hL.1
              have e59 : a.tmps.getD 59 undef = .bool false := hL.2.1
              clear hL
              go_simp
              exact ⟨⟨fun d hd => by injection hd with hd; subst hd; rfl, fun h => by cases h⟩, hS, trivial⟩
          · as_aux_lemma =>
              intro vals a W hS hL
              have e60 : a.tmps.getD 60 undef = .bool false := hL.1
              clear hL
              go_simp
              exact ⟨⟨fun d hd => by injection hd with hd; subst hd; rfl, fun h => by cases h⟩, hS, trivial⟩
          · as_aux_lemma =>
              intro vals a W hS hL
              have e5 : a.tmps.getD 5 undef = .pointer (some ⟨g5, 0, none⟩) := hL.1
              have e61 : a.tmps.getD 61 undef = .bool false := hL.2.1
              clear hL
              refine .inl ⟨false, e61, ?_⟩
              rw [if_pos rfl]
              refine lands_v (run_ld (.tmp 5) rfl e5 (hk5.below hS h5lt)) ?_
              exact ⟨⟨fun d hd => by injection hd with hd; subst hd; rfl, fun h => by cases h⟩, hS, trivial⟩
          · as_aux_lemma =>
              intro vals a W hS hL
              have e7 : a.tmps.getD 7 undef = .pointer (some ⟨g7, 0, none⟩) := hL.1
              have e61 : a.tmps.getD 61 undef = .bool false := hL.2.1
              clear hL
              refine .inl ⟨false, e61, ?_⟩
              rw [if_pos rfl]
              refine lands_v (run_ld (.tmp 7) rfl e7 (hk7.below hS h7lt)) ?_
              exact ⟨⟨fun d hd => by injection hd with hd; subst hd; rfl, fun h => by cases h⟩, hS, trivial⟩
          · as_aux_lemma =>
              intro vals a W hS hL
              have e62 : a.tmps.getD 62 undef = .agg (ec p (.slice A2 ks.length c2)).toArray := hL.1
              have e63 : a.tmps.getD 63 undef = .agg (ec p3 (.slice A3 ks3.length c3)).toArray := hL.2.1
              have e61 : a.tmps.getD 61 undef = .bool false := hL.2.2.1
              clear hL
              refine .inl ⟨false, e61, ?_⟩
              rw [if_pos rfl]
              go_simp
              refine (HSm.out W hS).mono ?_
              rintro e W2 ⟨rfl, hb⟩
              exact ⟨_, rfl, ⟨fun d hd => by injection hd with hd; subst hd; rfl, fun h => by cases h⟩, hS.trans (hb.mono hS.size), trivial⟩
          · as_aux_lemma =>
              intro vals a W hS hL
              have e6 : a.tmps.getD 6 undef = .int .i64 j := hL.1
              have e61 : a.tmps.getD 61 undef = .bool false := hL.2.1
              clear hL
              refine .inl ⟨false, e61, ?_⟩
              rw [if_pos rfl]
              go_simp
              exact ⟨⟨fun d hd => by injection hd with hd; subst hd; rfl, fun h => by cases h⟩, hS, trivial⟩
          · as_aux_lemma =>
              intro vals a W hS hL
              have e65 : a.tmps.getD 65 undef = .int .i64 j := hL.1
              have e61 : a.tmps.getD 61 undef = .bool false := hL.2.1
              clear hL
              refine .inl ⟨false, e61, ?_⟩
              rw [if_pos rfl]
              go_simp
              exact ⟨⟨fun d hd => by injection hd with hd; subst hd; rfl, fun h => by cases h⟩, hS, trivial⟩
          · as_aux_lemma =>
              intro vals a W hS hL
              have e64 : a.tmps.getD 64 undef = .bool sm := hL.1
              have e66 : a.tmps.getD 66 undef = .bool sm := hL.2.1
              have e61 : a.tmps.getD 61 undef = .bool false := hL.2.2.1
              clear hL
              refine .inl ⟨false, e61, ?_⟩
              rw [if_pos rfl]
              go_simp
              exact ⟨⟨fun d hd => by injection hd with hd; subst hd; rfl, fun h => by cases h⟩, hS, trivial⟩
          · as_aux_lemma =>
              intro vals a W hS hL
              have e61 : a.tmps.getD 61 undef = .bool false := hL.1
              have e67 : a.tmps.getD 67 undef = .bool false := hL.2.1
              clear hL
              go_simp
              exact ⟨⟨fun d hd => by injection hd with hd; subst hd; rfl, fun h => by cases h⟩, hS, trivial⟩
        · intro a W' vals hd hsz hT hF hv hP hS
          obtain rfl : vals = [] := List.eq_nil_of_length_eq_zero hv
          have hS2 : Below W9.heap.size W9 W' := hS
          have e5 : a.tmps.getD 5 undef = .pointer (some ⟨g5, 0, none⟩) := hT 5 (by simp)
          have e6 : a.tmps.getD 6 undef = .int .i64 j := hT 6 (by simp)
          have e7 : a.tmps.getD 7 undef = .pointer (some ⟨g7, 0, none⟩) := hT 7 (by simp)
          have e9 : a.tmps.getD 9 undef = .slice A9 (rfT (.mk p ks)).length c9 := hT 9 (by simp)
          have e10 : a.tmps.getD 10 undef = .slice A10 (rfT (.mk p ks)).length c10 := hT 10 (by simp)
          have e68 : a.tmps.getD 68 undef = .bool false := hT 68 (by simp)
          clear hT hF hP hS
          rw [act_lit 92 a hd hsz]
          simp only [List.range, List.range.loop, List.map, e5, e6, e7, e9, e10, e68]
          clear e5 e6 e7 e9 e10 e68 hsz hd
          generalize a.tmps.getD 0 undef = y0
          generalize a.tmps.getD 1 undef = y1
          generalize a.tmps.getD 2 undef = y2
          generalize a.tmps.getD 3 undef = y3
          generalize a.tmps.getD 4 undef = y4
          generalize a.tmps.getD 8 undef = y8
          generalize a.tmps.getD 11 undef = y11
          generalize a.tmps.getD 12 undef = y12
          generalize a.tmps.getD 13 undef = y13
          generalize a.tmps.getD 14 undef = y14
          generalize a.tmps.getD 15 undef = y15
          generalize a.tmps.getD 16 undef = y16
          generalize a.tmps.getD 17 undef = y17
          generalize a.tmps.getD 18 undef = y18
          generalize a.tmps.getD 19 undef = y19
          generalize a.tmps.getD 20 undef = y20
          generalize a.tmps.getD 21 undef = y21
          generalize a.tmps.getD 22 undef = y22
          generalize a.tmps.getD 23 undef = y23
          generalize a.tmps.getD 24 undef = y24
          generalize a.tmps.getD 25 undef = y25
          generalize a.tmps.getD 26 undef = y26
          generalize a.tmps.getD 27 undef = y27
          generalize a.tmps.getD 28 undef = y28
          generalize a.tmps.getD 29 undef = y29
          generalize a.tmps.getD 30 undef = y30
          generalize a.tmps.getD 31 undef = y31
          generalize a.tmps.getD 32 undef = y32
          generalize a.tmps.getD 33 undef = y33
          generalize a.tmps.getD 34 undef = y34
          generalize a.tmps.getD 35 undef = y35
          generalize a.tmps.getD 36 undef = y36
          generalize a.tmps.getD 37 undef = y37
          generalize a.tmps.getD 38 undef = y38
          generalize a.tmps.getD 39 undef = y39
          generalize a.tmps.getD 40 undef = y40
          generalize a.tmps.getD 41 undef = y41
          generalize a.tmps.getD 42 undef = y42
          generalize a.tmps.getD 43 undef = y43
          generalize a.tmps.getD 44 undef = y44
          generalize a.tmps.getD 45 undef = y45
          generalize a.tmps.getD 46 undef = y46
          generalize a.tmps.getD 47 undef = y47
          generalize a.tmps.getD 48 undef = y48
          generalize a.tmps.getD 49 undef = y49
          generalize a.tmps.getD 50 undef = y50
          generalize a.tmps.getD 51 undef = y51
          generalize a.tmps.getD 52 undef = y52
          generalize a.tmps.getD 53 undef = y53
          generalize a.tmps.getD 54 undef = y54
          generalize a.tmps.getD 55 undef = y55
          generalize a.tmps.getD 56 undef = y56
          generalize a.tmps.getD 57 undef = y57
          generalize a.tmps.getD 58 undef = y58
          generalize a.tmps.getD 59 undef = y59
          generalize a.tmps.getD 60 undef = y60
          generalize a.tmps.getD 61 undef = y61
          generalize a.tmps.getD 62 undef = y62
          generalize a.tmps.getD 63 undef = y63
          generalize a.tmps.getD 64 undef = y64
          generalize a.tmps.getD 65 undef = y65
          generalize a.tmps.getD 66 undef = y66
          generalize a.tmps.getD 67 undef = y67
          generalize a.tmps.getD 69 undef = y69
          generalize a.tmps.getD 70 undef = y70
          generalize a.tmps.getD 71 undef = y71
          generalize a.tmps.getD 72 undef = y72
          generalize a.tmps.getD 73 undef = y73
          generalize a.tmps.getD 74 undef = y74
          generalize a.tmps.getD 75 undef = y75
          generalize a.tmps.getD 76 undef = y76
          generalize a.tmps.getD 77 undef = y77
          generalize a.tmps.getD 78 undef = y78
          generalize a.tmps.getD 79 undef = y79
          generalize a.tmps.getD 80 undef = y80
          generalize a.tmps.getD 81 undef = y81
          generalize a.tmps.getD 82 undef = y82
          generalize a.tmps.getD 83 undef = y83
          generalize a.tmps.getD 84 undef = y84
          generalize a.tmps.getD 85 undef = y85
          generalize a.tmps.getD 86 undef = y86
          generalize a.tmps.getD 87 undef = y87
          generalize a.tmps.getD 88 undef = y88
          generalize a.tmps.getD 89 undef = y89
          generalize a.tmps.getD 90 undef = y90
          generalize a.tmps.getD 91 undef = y91
          have hr9 : RfV (rfT (.mk p ks)) (.slice A9 (rfT (.mk p ks)).length c9) W' := RfV.below ⟨A9, c9, rfl, HR.out.1.1, HR.out.1.2⟩ hS2
          have hr10 : RfV (rfT (.mk p ks)) (.slice A10 (rfT (.mk p ks)).length c10) W' := RfV.below ⟨A10, c10, rfl, HR.out.2.1, HR.out.2.2⟩ hS2
          have HR := Lib.hid (And.intro hr9 hr10)
          have hk7 := hk7.below hS2 h7lt
          have h7lt := hk7.lt
          have HQ := Lib.hid (HQ.out.2.below hS2)
          have HB := Lib.hid (HB.out.trans (hS2.mono HB.out.size))
          have HK := Lib.hid (And.intro hk7 h7lt)
          have hlen : (rfT (.mk p ks)).length ≤ 100000 := by
            have h1 := rf_len _ [.mk p ks] (Nat.le_refl _)
            simp only [rfL, cntL, List.append_nil] at h1
            omega
          clear hr9 hr10 hS2 hk5 h5lt HDx HDy HNx HNy HSm hw1 hw2 hj1 hsn hk7 h7lt
          generalize W' = WA at *
          generalize hL : rfT (.mk p ks) = L at *
          repeat' (first | go_values | go_skip | go_guarded | go_step | go_upon)
          go_loopw [11] (fun i wr2 => ∃ k : Nat, i = .int .i64 k ∧ k ≤ L.length ∧ Hid (Below WA.heap.size WA wr2)) (fun i _ => L.length - (intOf i).toNat)
          case atStart => exact ⟨0, rfl, Nat.zero_le _, Lib.hid (Below.refl _ _)⟩
          case round =>
            obtain ⟨k, rfl, hk, HW⟩ := hrel
            by_cases hkn : k < L.length
            · have hkn' : (k : Int) < (L.length : Int) := by omega
              obtain ⟨pk, hpk⟩ : ∃ pk, L[k]? = some pk := ⟨_, List.getElem?_eq_getElem hkn⟩
              obtain ⟨A9', c9', e9', -, h9⟩ := HR.out.1
              obtain ⟨A10', c10', e10', -, h10⟩ := HR.out.2
              injection e9' with q1 q2 q3
              injection e10' with r1 r2 r3
              subst q1 q3 r1 r3
              clear q2 r2
              obtain ⟨a9, rfl, h9b, h9c⟩ := h9 (by omega)
              obtain ⟨a10, rfl, h10b, h10c⟩ := h10 (by omega)
              have HC9 : Hid (∀ W, Below wr.heap.size wr W → ∀ (q : Nat) (u : Value), (ec pk (.slice none 0 0))[q]? = some u → W.cell? ((a9.add (k * 18)).add q) = some u) := Lib.hid fun W hW q u hu => ((HW.out.trans (hW.mono HW.out.size)).cell (by rw [add_block, add_block]; exact h9b)).trans (h9c k pk hpk q u hu)
              have HC10 : Hid (∀ W, Below wr.heap.size wr W → ∀ (q : Nat) (u : Value), (ec pk (.slice none 0 0))[q]? = some u → W.cell? ((a10.add (k * 18)).add q) = some u) := Lib.hid fun W hW q u hu => ((HW.out.trans (hW.mono HW.out.size)).cell (by rw [add_block, add_block]; exact h10b)).trans (h10c k pk hpk q u hu)
              have HSm : Hid (∀ W, Calls Tryd.prog 13 #[.agg (ec pk (.slice none 0 0)).toArray, .agg (ec pk (.slice none 0 0)).toArray] W fun e W2 => e = .returned (.bool true) ∧ Below W.heap.size W W2) := Lib.hid fun W => by
                refine (same_t (w := W) (p := pk) (q := pk) (ks := []) (ms := []) (A := none) (A' := none) (c := 0) (c' := 0) ⟨Nat.le_refl _, RowF.nil _ _ _ _⟩ ⟨Nat.le_refl _, RowF.nil _ _ _ _⟩ (by simp [cntT, cntL]) (by simp [cntT, cntL])).mono ?_
                rintro e W2 ⟨b, rfl, hbe, hb⟩
                refine ⟨?_, hb⟩
                congr 2
                exact hbe.2 rfl
              have hj0 : (0 : Int) ≤ (k : Int) := by omega
              clear h9 h10 h9b h10b h9c h10c hpk
              repeat' (first | go_values | go_skip | go_guarded | go_step | go_upon)
              refine wp_region_phases (S := (fun _ W => Below wr.heap.size wr W)) (E := (fun _ _ => True)) [] [(0, Is (y0)), (1, Is (y1)), (2, Is (y2)), (3, Is (y3)), (8, Is (y8)), (12, Is (y12)), (13, Is (y13)), (14, Is (y14)), (15, Is (y15)), (16, Is (y16)), (17, Is (y17)), (18, Is (y18)), (19, Is (y19)), (20, Is (y20)), (21, Is (y21)), (22, Is (y22)), (23, Is (y23)), (24, Is (y24)), (25, Is (y25)), (26, Is (y26)), (27, Is (y27)), (28, Is (y28)), (29, Is (y29)), (30, Is (y30)), (31, Is (y31)), (32, Is (y32)), (33, Is (y33)), (34, Is (y34)), (35, Is (y35)), (36, Is (y36)), (37, Is (y37)), (38, Is (y38)), (39, Is (y39)), (40, Is (y40)), (41, Is (y41)), (42, Is (y42)), (43, Is (y43)), (44, Is (y44)), (45, Is (y45)), (46, Is (y46)), (47, Is (y47)), (48, Is (y48)), (49, Is (y49)), (50, Is (y50)), (51, Is (y51)), (52, Is (y52)), (53, Is (y53)), (54, Is (y54)), (55, Is (y55)), (56, Is (y56)), (57, Is (y57)), (58, Is (y58)), (59, Is (y59)), (60, Is (y60)), (61, Is (y61)), (62, Is (y62)), (63, Is (y63)), (64, Is (y64)), (65, Is (y65)), (66, Is (y66)), (67, Is (y67)), (85, Is (y85)), (86, Is (y86)), (87, Is (y87)), (88, Is (y88)), (89, Is (y89)), (90, Is (y90)), (91, Is (y91)), (4, Is (u4)), (5, Is (.pointer (some ⟨g5, 0, none⟩))), (6, Is (.int .i64 j)), (7, Is (.pointer (some ⟨g7, 0, none⟩))), (9, Is (.slice (some a9) L.length c9)), (10, Is (.slice (some a10) L.length c10)), (11, Is (.int .i64 k)), (68, Is (.bool false))] [(75, Is (.slice (some a9) L.length c9)), (76, Is (.int .i64 k)), (77, Is (.pointer (some (a9.add (k * 18))))), (78, Is (.agg (ec pk (.slice none 0 0)).toArray)), (79, Is (.slice (some a10) L.length c10)), (80, Is (.int .i64 k)), (81, Is (.pointer (some (a10.add (k * 18))))), (82, Is (.agg (ec pk (.slice none 0 0)).toArray)), (83, Is (.bool true)), (84, Is (.bool false))]
                [.op [9] none, .op [11] none, .op [75, 76] none, .op [77] none, .op [10] none, .op [11] none, .op [79, 80] none, .op [81] none, .op [78, 82] none, .op [83] none] (by as_aux_lemma => kernel_rfl) ?_ ?_ ?_ ?_ ?_ ⟨stable_is _ _, stable_is _ _, stable_is _ _, stable_is _ _, stable_is _ _, stable_is _ _, stable_is _ _, stable_is _ _, stable_is _ _, stable_is _ _, stable_is _ _, stable_is _ _, stable_is _ _, stable_is _ _, stable_is _ _, stable_is _ _, stable_is _ _, stable_is _ _, stable_is _ _, stable_is _ _, stable_is _ _, stable_is _ _, stable_is _ _, stable_is _ _, stable_is _ _, stable_is _ _, stable_is _ _, stable_is _ _, stable_is _ _, stable_is _ _, stable_is _ _, stable_is _ _, stable_is _ _, stable_is _ _, stable_is _ _, stable_is _ _, stable_is _ _, stable_is _ _, stable_is _ _, stable_is _ _, stable_is _ _, stable_is _ _, stable_is _ _, stable_is _ _, stable_is _ _, stable_is _ _, stable_is _ _, stable_is _ _, stable_is _ _, stable_is _ _, stable_is _ _, stable_is _ _, stable_is _ _, stable_is _ _, stable_is _ _, stable_is _ _, stable_is _ _, stable_is _ _, stable_is _ _, stable_is _ _, stable_is _ _, stable_is _ _, stable_is _ _, stable_is _ _, stable_is _ _, stable_is _ _, stable_is _ _, stable_is _ _, stable_is _ _, stable_is _ _, stable_is _ _, stable_is _ _, stable_is _ _, stable_is _ _, stable_is _ _, stable_is _ _, stable_is _ _, stable_is _ _, stable_is _ _, stable_is _ _, stable_is _ _, stable_is _ _, stable_is _ _, stable_is _ _, stable_is _ _, stable_is _ _, trivial⟩ ?_ (Below.refl _ _).drew ?_ ?_
              · as_aux_lemma => kernel_rfl
              · as_aux_lemma => kernel_rfl
              · as_aux_lemma => kernel_rfl
              · as_aux_lemma => kernel_rfl
              · as_aux_lemma => kernel_rfl
              · exact ⟨rfl, rfl, rfl, rfl, rfl, rfl, rfl, rfl, rfl, rfl, rfl, rfl, rfl, rfl, rfl, rfl, rfl, rfl, rfl, rfl, rfl, rfl, rfl, rfl, rfl, rfl, rfl, rfl, rfl, rfl, rfl, rfl, rfl, rfl, rfl, rfl, rfl, rfl, rfl, rfl, rfl, rfl, rfl, rfl, rfl, rfl, rfl, rfl, rfl, rfl, rfl, rfl, rfl, rfl, rfl, rfl, rfl, rfl, rfl, rfl, rfl, rfl, rfl, rfl, rfl, rfl, rfl, rfl, rfl, rfl, rfl, rfl, rfl, rfl, rfl, rfl, trivial⟩
              · refine ⟨?_, ?_, ?_, ?_, ?_, ?_, ?_, ?_, ?_, ?_, trivial⟩
                · as_aux_lemma =>
                    intro vals a W hS hL
                    have e9 : a.tmps.getD 9 undef = .slice (some a9) L.length c9 := hL.1
                    clear hL
                    go_simp
                    exact ⟨⟨fun d hd => by injection hd with hd; subst hd; rfl, fun h => by cases h⟩, hS, trivial⟩
                · as_aux_lemma =>
                    intro vals a W hS hL
                    have e11 : a.tmps.getD 11 undef = .int .i64 k := hL.1
                    clear hL
                    go_simp
                    exact ⟨⟨fun d hd => by injection hd with hd; subst hd; rfl, fun h => by cases h⟩, hS, trivial⟩
                · as_aux_lemma =>
                    intro vals a W hS hL
                    have e75 : a.tmps.getD 75 undef = .slice (some a9) L.length c9 := hL.1
                    have e76 : a.tmps.getD 76 undef = .int .i64 k := hL.2.1
                    clear hL
                    go_simp
                    exact ⟨⟨fun d hd => by injection hd with hd; subst hd; rfl, fun h => by cases h⟩, hS, trivial⟩
                · as_aux_lemma =>
                    intro vals a W hS hL
                    have e77 : a.tmps.getD 77 undef = .pointer (some (a9.add (k * 18))) := hL.1
                    clear hL
                    refine lands_v (run_ldm (p := pk) (k := .slice none 0 0) (.tmp 77) rfl e77 (HC9.out W hS)) ?_
                    exact ⟨⟨fun d hd => by injection hd with hd; subst hd; rfl, fun h => by cases h⟩, hS, trivial⟩
                · as_aux_lemma =>
                    intro vals a W hS hL
                    have e10 : a.tmps.getD 10 undef = .slice (some a10) L.length c10 := hL.1
                    clear hL
                    go_simp
                    exact ⟨⟨fun d hd => by injection hd with hd; subst hd; rfl, fun h => by cases h⟩, hS, trivial⟩
                · as_aux_lemma =>
                    intro vals a W hS hL
                    have e11 : a.tmps.getD 11 undef = .int .i64 k := hL.1
                    clear hL
                    go_simp
                    exact ⟨⟨fun d hd => by injection hd with hd; subst hd; rfl, fun h => by cases h⟩, hS, trivial⟩
                · as_aux_lemma =>
                    intro vals a W hS hL
                    have e79 : a.tmps.getD 79 undef = .slice (some a10) L.length c10 := hL.1
                    have e80 : a.tmps.getD 80 undef = .int .i64 k := hL.2.1
                    clear hL
                    go_simp
                    exact ⟨⟨fun d hd => by injection hd with hd; subst hd; rfl, fun h => by cases h⟩, hS, trivial⟩
                · as_aux_lemma =>
                    intro vals a W hS hL
                    have e81 : a.tmps.getD 81 undef = .pointer (some (a10.add (k * 18))) := hL.1
                    clear hL
                    refine lands_v (run_ldm (p := pk) (k := .slice none 0 0) (.tmp 81) rfl e81 (HC10.out W hS)) ?_
                    exact ⟨⟨fun d hd => by injection hd with hd; subst hd; rfl, fun h => by cases h⟩, hS, trivial⟩
                · as_aux_lemma =>
                    intro vals a W hS hL
                    have e78 : a.tmps.getD 78 undef = .agg (ec pk (.slice none 0 0)).toArray := hL.1
                    have e82 : a.tmps.getD 82 undef = .agg (ec pk (.slice none 0 0)).toArray := hL.2.1
                    clear hL
                    go_simp
                    refine (HSm.out W).mono ?_
                    rintro e W2 ⟨rfl, hb⟩
                    exact ⟨_, rfl, ⟨fun d hd => by injection hd with hd; subst hd; rfl, fun h => by cases h⟩, hS.trans (hb.mono hS.size), trivial⟩
                · as_aux_lemma =>
                    intro vals a W hS hL
                    have e83 : a.tmps.getD 83 undef = .bool true := hL.1
                    clear hL
                    go_simp
                    exact ⟨⟨fun d hd => by injection hd with hd; subst hd; rfl, fun h => by cases h⟩, hS, trivial⟩
              · intro a W' vals hd hsz hT hF hv hP hS
                obtain rfl : vals = [] := List.eq_nil_of_length_eq_zero hv
                have hS2 : Below wr.heap.size wr W' := hS
                have e0 : a.tmps.getD 0 undef = y0 := hT 0 (by simp)
                have e1 : a.tmps.getD 1 undef = y1 := hT 1 (by simp)
                have e2 : a.tmps.getD 2 undef = y2 := hT 2 (by simp)
                have e3 : a.tmps.getD 3 undef = y3 := hT 3 (by simp)
                have e8 : a.tmps.getD 8 undef = y8 := hT 8 (by simp)
                have e12 : a.tmps.getD 12 undef = y12 := hT 12 (by simp)
                have e13 : a.tmps.getD 13 undef = y13 := hT 13 (by simp)
                have e14 : a.tmps.getD 14 undef = y14 := hT 14 (by simp)
                have e15 : a.tmps.getD 15 undef = y15 := hT 15 (by simp)
                have e16 : a.tmps.getD 16 undef = y16 := hT 16 (by simp)
                have e17 : a.tmps.getD 17 undef = y17 := hT 17 (by simp)
                have e18 : a.tmps.getD 18 undef = y18 := hT 18 (by simp)
                have e19 : a.tmps.getD 19 undef = y19 := hT 19 (by simp)
                have e20 : a.tmps.getD 20 undef = y20 := hT 20 (by simp)
                have e21 : a.tmps.getD 21 undef = y21 := hT 21 (by simp)
                have e22 : a.tmps.getD 22 undef = y22 := hT 22 (by simp)
                have e23 : a.tmps.getD 23 undef = y23 := hT 23 (by simp)
                have e24 : a.tmps.getD 24 undef = y24 := hT 24 (by simp)
                have e25 : a.tmps.getD 25 undef = y25 := hT 25 (by simp)
                have e26 : a.tmps.getD 26 undef = y26 := hT 26 (by simp)
                have e27 : a.tmps.getD 27 undef = y27 := hT 27 (by simp)
                have e28 : a.tmps.getD 28 undef = y28 := hT 28 (by simp)
                have e29 : a.tmps.getD 29 undef = y29 := hT 29 (by simp)
                have e30 : a.tmps.getD 30 undef = y30 := hT 30 (by simp)
                have e31 : a.tmps.getD 31 undef = y31 := hT 31 (by simp)
                have e32 : a.tmps.getD 32 undef = y32 := hT 32 (by simp)
                have e33 : a.tmps.getD 33 undef = y33 := hT 33 (by simp)
                have e34 : a.tmps.getD 34 undef = y34 := hT 34 (by simp)
                have e35 : a.tmps.getD 35 undef = y35 := hT 35 (by simp)
                have e36 : a.tmps.getD 36 undef = y36 := hT 36 (by simp)
                have e37 : a.tmps.getD 37 undef = y37 := hT 37 (by simp)
                have e38 : a.tmps.getD 38 undef = y38 := hT 38 (by simp)
                have e39 : a.tmps.getD 39 undef = y39 := hT 39 (by simp)
                have e40 : a.tmps.getD 40 undef = y40 := hT 40 (by simp)
                have e41 : a.tmps.getD 41 undef = y41 := hT 41 (by simp)
                have e42 : a.tmps.getD 42 undef = y42 := hT 42 (by simp)
                have e43 : a.tmps.getD 43 undef = y43 := hT 43 (by simp)
                have e44 : a.tmps.getD 44 undef = y44 := hT 44 (by simp)
                have e45 : a.tmps.getD 45 undef = y45 := hT 45 (by simp)
                have e46 : a.tmps.getD 46 undef = y46 := hT 46 (by simp)
                have e47 : a.tmps.getD 47 undef = y47 := hT 47 (by simp)
                have e48 : a.tmps.getD 48 undef = y48 := hT 48 (by simp)
                have e49 : a.tmps.getD 49 undef = y49 := hT 49 (by simp)
                have e50 : a.tmps.getD 50 undef = y50 := hT 50 (by simp)
                have e51 : a.tmps.getD 51 undef = y51 := hT 51 (by simp)
                have e52 : a.tmps.getD 52 undef = y52 := hT 52 (by simp)
                have e53 : a.tmps.getD 53 undef = y53 := hT 53 (by simp)
                have e54 : a.tmps.getD 54 undef = y54 := hT 54 (by simp)
                have e55 : a.tmps.getD 55 undef = y55 := hT 55 (by simp)
                have e56 : a.tmps.getD 56 undef = y56 := hT 56 (by simp)
                have e57 : a.tmps.getD 57 undef = y57 := hT 57 (by simp)
                have e58 : a.tmps.getD 58 undef = y58 := hT 58 (by simp)
                have e59 : a.tmps.getD 59 undef = y59 := hT 59 (by simp)
                have e60 : a.tmps.getD 60 undef = y60 := hT 60 (by simp)
                have e61 : a.tmps.getD 61 undef = y61 := hT 61 (by simp)
                have e62 : a.tmps.getD 62 undef = y62 := hT 62 (by simp)
                have e63 : a.tmps.getD 63 undef = y63 := hT 63 (by simp)
                have e64 : a.tmps.getD 64 undef = y64 := hT 64 (by simp)
                have e65 : a.tmps.getD 65 undef = y65 := hT 65 (by simp)
                have e66 : a.tmps.getD 66 undef = y66 := hT 66 (by simp)
                have e67 : a.tmps.getD 67 undef = y67 := hT 67 (by simp)
                have e85 : a.tmps.getD 85 undef = y85 := hT 85 (by simp)
                have e86 : a.tmps.getD 86 undef = y86 := hT 86 (by simp)
                have e87 : a.tmps.getD 87 undef = y87 := hT 87 (by simp)
                have e88 : a.tmps.getD 88 undef = y88 := hT 88 (by simp)
                have e89 : a.tmps.getD 89 undef = y89 := hT 89 (by simp)
                have e90 : a.tmps.getD 90 undef = y90 := hT 90 (by simp)
                have e91 : a.tmps.getD 91 undef = y91 := hT 91 (by simp)
                have e4 : a.tmps.getD 4 undef = u4 := hT 4 (by simp)
                have e5 : a.tmps.getD 5 undef = .pointer (some ⟨g5, 0, none⟩) := hT 5 (by simp)
                have e6 : a.tmps.getD 6 undef = .int .i64 j := hT 6 (by simp)
                have e7 : a.tmps.getD 7 undef = .pointer (some ⟨g7, 0, none⟩) := hT 7 (by simp)
                have e9 : a.tmps.getD 9 undef = .slice (some a9) L.length c9 := hT 9 (by simp)
                have e10 : a.tmps.getD 10 undef = .slice (some a10) L.length c10 := hT 10 (by simp)
                have e11 : a.tmps.getD 11 undef = .int .i64 k := hT 11 (by simp)
                have e68 : a.tmps.getD 68 undef = .bool false := hT 68 (by simp)
                have e84 : a.tmps.getD 84 undef = .bool false := hT 84 (by simp)
                clear hT hF hP hS
                rw [act_lit 92 a hd hsz]
                simp only [List.range, List.range.loop, List.map, e0, e1, e2, e3, e8, e12, e13, e14, e15, e16, e17, e18, e19, e20, e21, e22, e23, e24, e25, e26, e27, e28, e29, e30, e31, e32, e33, e34, e35, e36, e37, e38, e39, e40, e41, e42, e43, e44, e45, e46, e47, e48, e49, e50, e51, e52, e53, e54, e55, e56, e57, e58, e59, e60, e61, e62, e63, e64, e65, e66, e67, e85, e86, e87, e88, e89, e90, e91, e4, e5, e6, e7, e9, e10, e11, e68, e84]
                clear e0 e1 e2 e3 e8 e12 e13 e14 e15 e16 e17 e18 e19 e20 e21 e22 e23 e24 e25 e26 e27 e28 e29 e30 e31 e32 e33 e34 e35 e36 e37 e38 e39 e40 e41 e42 e43 e44 e45 e46 e47 e48 e49 e50 e51 e52 e53 e54 e55 e56 e57 e58 e59 e60 e61 e62 e63 e64 e65 e66 e67 e85 e86 e87 e88 e89 e90 e91 e4 e5 e6 e7 e9 e10 e11 e68 e84 hsz hd
                generalize a.tmps.getD 69 undef = y69
                generalize a.tmps.getD 70 undef = y70
                generalize a.tmps.getD 71 undef = y71
                generalize a.tmps.getD 72 undef = y72
                generalize a.tmps.getD 73 undef = y73
                generalize a.tmps.getD 74 undef = y74
                generalize a.tmps.getD 75 undef = y75
                generalize a.tmps.getD 76 undef = y76
                generalize a.tmps.getD 77 undef = y77
                generalize a.tmps.getD 78 undef = y78
                generalize a.tmps.getD 79 undef = y79
                generalize a.tmps.getD 80 undef = y80
                generalize a.tmps.getD 81 undef = y81
                generalize a.tmps.getD 82 undef = y82
                generalize a.tmps.getD 83 undef = y83
                repeat' (first | go_values | go_skip | go_guarded | go_step | go_upon)
                go_roundw
                case rel => exact ⟨k + 1, by go_num, by omega, Lib.hid (HW.out.trans (hS2.mono HW.out.size))⟩
                case measure => simp [intOf]; omega
            · have hkn' : ¬ (k : Int) < (L.length : Int) := by omega
              clear HR
              have HQ := Lib.hid (HQ.out.below HW.out)
              have hk7 := HK.out.1.below HW.out HK.out.2
              have h7lt := hk7.lt
              have HB := Lib.hid (HB.out.trans (HW.out.mono HB.out.size))
              have HV := Lib.hid (HV0.out.below HB.out)
              have HSh : Hid (ShortN (ndT (.mk p3 ks3))) := Lib.hid fun q hq => by
                rw [HT.out.1] at hq
                rcases brk_nd _ _ _ hq with rfl | hq
                · exact Nat.zero_le _
                · exact Nat.le_trans (HF.out.2 q hq) (by omega)
              have hck := brk_ck H0.out (by rw [hnx]; exact HF.out.1) HT.out.2.1
              rw [← HT.out.1, HP.out.1] at hck
              obtain ⟨dd, hdd⟩ : ∃ dd : Int, dd = ((dx + j : Nat) : Int) := ⟨_, rfl⟩
              have HCk : Hid (∀ W, Below wr.heap.size wr W → Calls Tryd.prog 9 #[.agg (ec p3 (.slice A3 ks3.length c3)).toArray] W fun e W2 => e = .returned (.int .i64 (ckT oneE (.mk p3 ks3))) ∧ Below W.heap.size W W2) := Lib.hid fun W hW => check_t (HV.out.below hW) (HQ.out.below hW) HT.out.2.2.2 HSh.out
              have HDy : Hid (∀ W, Below wr.heap.size wr W → Calls Tryd.prog 10 #[.agg (ec p3 (.slice A3 ks3.length c3)).toArray] W fun e W2 => e = .returned (.int .i64 dd) ∧ Below W.heap.size W W2) := Lib.hid fun W hW => by
                have h := depth_any (HQ.out.below hW) HT.out.2.2.2
                rw [HP.out.1, ← hdd] at h
                exact h
              generalize ckT oneE (.mk p3 ks3) = cv at *
              obtain ⟨b1, hb1⟩ : ∃ b1, b1 = decide (dd ≤ 16) := ⟨_, rfl⟩
              have hb2 : (cv == 0) = b1 := by
                rw [hb1, Bool.eq_iff_iff, beq_iff_eq, decide_eq_true_iff, hck]
                omega
              have hb3 : decide (dd ≤ 16) = b1 := hb1.symm
              have hb4 : (b1 == b1) = true := by simp
              clear hck hdd hb1
              repeat' (first | go_values | go_skip | go_guarded | go_step | go_upon)
              refine wp_region_phases (S := (fun _ W => Below wr.heap.size wr W)) (E := (fun _ _ => True)) [] [(7, Is (.pointer (some ⟨g7, 0, none⟩)))] [(85, Is (.agg (ec p3 (.slice A3 ks3.length c3)).toArray)), (86, Is (.int .i64 cv)), (87, Is (.bool b1)), (88, Is (.agg (ec p3 (.slice A3 ks3.length c3)).toArray)), (89, Is (.int .i64 dd)), (90, Is (.bool b1)), (91, Is (.bool true)), (4, Is (.bool true))]
                [.op [7] none, .op [85] none, .op [86] none, .op [7] none, .op [88] none, .op [89] none, .op [87, 90] none, .op [91] none] (by as_aux_lemma => kernel_rfl) ?_ ?_ ?_ ?_ ?_ ⟨stable_is _ _, stable_is _ _, stable_is _ _, stable_is _ _, stable_is _ _, stable_is _ _, stable_is _ _, stable_is _ _, stable_is _ _, trivial⟩ ?_ (Below.refl _ _).drew ?_ ?_
              · as_aux_lemma => kernel_rfl
              · as_aux_lemma => kernel_rfl
              · as_aux_lemma => kernel_rfl
              · as_aux_lemma => kernel_rfl
              · as_aux_lemma => kernel_rfl
              · exact ⟨rfl, trivial⟩
              · refine ⟨?_, ?_, ?_, ?_, ?_, ?_, ?_, ?_, trivial⟩
                · as_aux_lemma =>
                    intro vals a W hS hL
                    have e7 : a.tmps.getD 7 undef = .pointer (some ⟨g7, 0, none⟩) := hL.1
                    clear hL
                    refine lands_v (run_ld (.tmp 7) rfl e7 (hk7.below hS h7lt)) ?_
                    exact ⟨⟨fun d hd => by injection hd with hd; subst hd; rfl, fun h => by cases h⟩, hS, trivial⟩
                · as_aux_lemma =>
                    intro vals a W hS hL
                    have e85 : a.tmps.getD 85 undef = .agg (ec p3 (.slice A3 ks3.length c3)).toArray := hL.1
                    clear hL
                    go_simp
                    refine (HCk.out W hS).mono ?_
                    rintro e W2 ⟨rfl, hb⟩
                    exact ⟨_, rfl, ⟨fun d hd => by injection hd with hd; subst hd; rfl, fun h => by cases h⟩, hS.trans (hb.mono hS.size), trivial⟩
                · as_aux_lemma =>
                    intro vals a W hS hL
                    have e86 : a.tmps.getD 86 undef = .int .i64 cv := hL.1
                    clear hL
                    go_simp
                    exact ⟨⟨fun d hd => by injection hd with hd; subst hd; rfl, fun h => by cases h⟩, hS, trivial⟩
                · as_aux_lemma =>
                    intro vals a W hS hL
                    have e7 : a.tmps.getD 7 undef = .pointer (some ⟨g7, 0, none⟩) := hL.1
                    clear hL
                    refine lands_v (run_ld (.tmp 7) rfl e7 (hk7.below hS h7lt)) ?_
                    exact ⟨⟨fun d hd => by injection hd with hd; subst hd; rfl, fun h => by cases h⟩, hS, trivial⟩
                · as_aux_lemma =>
                    intro vals a W hS hL
                    have e88 : a.tmps.getD 88 undef = .agg (ec p3 (.slice A3 ks3.length c3)).toArray := hL.1
                    clear hL
                    go_simp
                    refine (HDy.out W hS).mono ?_
                    rintro e W2 ⟨rfl, hb⟩
                    exact ⟨_, rfl, ⟨fun d hd => by injection hd with hd; subst hd; rfl, fun h => by cases h⟩, hS.trans (hb.mono hS.size), trivial⟩
                · as_aux_lemma =>
                    intro vals a W hS hL
                    have e89 : a.tmps.getD 89 undef = .int .i64 dd := hL.1
                    clear hL
                    go_simp
                    exact ⟨⟨fun d hd => by injection hd with hd; subst hd; rfl, fun h => by cases h⟩, hS, trivial⟩
                · as_aux_lemma =>
                    intro vals a W hS hL
                    have e87 : a.tmps.getD 87 undef = .bool b1 := hL.1
                    have e90 : a.tmps.getD 90 undef = .bool b1 := hL.2.1
                    clear hL
                    go_simp
                    exact ⟨⟨fun d hd => by injection hd with hd; subst hd; rfl, fun h => by cases h⟩, hS, trivial⟩
                · as_aux_lemma =>
                    intro vals a W hS hL
                    have e91 : a.tmps.getD 91 undef = .bool true := hL.1
                    clear hL
                    go_simp
                    exact ⟨⟨fun d hd => by injection hd with hd; subst hd; rfl, fun h => by cases h⟩, hS, trivial⟩
              · intro a W' vals hd hsz hT hF hv hP hS
                obtain rfl : vals = [] := List.eq_nil_of_length_eq_zero hv
                have hS2 : Below wr.heap.size wr W' := hS
                have e7 : a.tmps.getD 7 undef = .pointer (some ⟨g7, 0, none⟩) := hT 7 (by simp)
                have e4 : a.tmps.getD 4 undef = .bool true := hT 4 (by simp)
                clear hT hF hP hS
                rw [act_lit 92 a hd hsz]
                simp only [List.range, List.range.loop, List.map, e7, e4]
                clear e7 e4 hsz hd
                generalize a.tmps.getD 0 undef = y0
                generalize a.tmps.getD 1 undef = y1
                generalize a.tmps.getD 2 undef = y2
                generalize a.tmps.getD 3 undef = y3
                generalize a.tmps.getD 5 undef = y5
                generalize a.tmps.getD 6 undef = y6
                generalize a.tmps.getD 8 undef = y8
                generalize a.tmps.getD 9 undef = y9
                generalize a.tmps.getD 10 undef = y10
                generalize a.tmps.getD 11 undef = y11
                generalize a.tmps.getD 12 undef = y12
                generalize a.tmps.getD 13 undef = y13
                generalize a.tmps.getD 14 undef = y14
                generalize a.tmps.getD 15 undef = y15
                generalize a.tmps.getD 16 undef = y16
                generalize a.tmps.getD 17 undef = y17
                generalize a.tmps.getD 18 undef = y18
                generalize a.tmps.getD 19 undef = y19
                generalize a.tmps.getD 20 undef = y20
                generalize a.tmps.getD 21 undef = y21
                generalize a.tmps.getD 22 undef = y22
                generalize a.tmps.getD 23 undef = y23
                generalize a.tmps.getD 24 undef = y24
                generalize a.tmps.getD 25 undef = y25
                generalize a.tmps.getD 26 undef = y26
                generalize a.tmps.getD 27 undef = y27
                generalize a.tmps.getD 28 undef = y28
                generalize a.tmps.getD 29 undef = y29
                generalize a.tmps.getD 30 undef = y30
                generalize a.tmps.getD 31 undef = y31
                generalize a.tmps.getD 32 undef = y32
                generalize a.tmps.getD 33 undef = y33
                generalize a.tmps.getD 34 undef = y34
                generalize a.tmps.getD 35 undef = y35
                generalize a.tmps.getD 36 undef = y36
                generalize a.tmps.getD 37 undef = y37
                generalize a.tmps.getD 38 undef = y38
                generalize a.tmps.getD 39 undef = y39
                generalize a.tmps.getD 40 undef = y40
                generalize a.tmps.getD 41 undef = y41
                generalize a.tmps.getD 42 undef = y42
                generalize a.tmps.getD 43 undef = y43
                generalize a.tmps.getD 44 undef = y44
                generalize a.tmps.getD 45 undef = y45
                generalize a.tmps.getD 46 undef = y46
                generalize a.tmps.getD 47 undef = y47
                generalize a.tmps.getD 48 undef = y48
                generalize a.tmps.getD 49 undef = y49
                generalize a.tmps.getD 50 undef = y50
                generalize a.tmps.getD 51 undef = y51
                generalize a.tmps.getD 52 undef = y52
                generalize a.tmps.getD 53 undef = y53
                generalize a.tmps.getD 54 undef = y54
                generalize a.tmps.getD 55 undef = y55
                generalize a.tmps.getD 56 undef = y56
                generalize a.tmps.getD 57 undef = y57
                generalize a.tmps.getD 58 undef = y58
                generalize a.tmps.getD 59 undef = y59
                generalize a.tmps.getD 60 undef = y60
                generalize a.tmps.getD 61 undef = y61
                generalize a.tmps.getD 62 undef = y62
                generalize a.tmps.getD 63 undef = y63
                generalize a.tmps.getD 64 undef = y64
                generalize a.tmps.getD 65 undef = y65
                generalize a.tmps.getD 66 undef = y66
                generalize a.tmps.getD 67 undef = y67
                generalize a.tmps.getD 68 undef = y68
                generalize a.tmps.getD 69 undef = y69
                generalize a.tmps.getD 70 undef = y70
                generalize a.tmps.getD 71 undef = y71
                generalize a.tmps.getD 72 undef = y72
                generalize a.tmps.getD 73 undef = y73
                generalize a.tmps.getD 74 undef = y74
                generalize a.tmps.getD 75 undef = y75
                generalize a.tmps.getD 76 undef = y76
                generalize a.tmps.getD 77 undef = y77
                generalize a.tmps.getD 78 undef = y78
                generalize a.tmps.getD 79 undef = y79
                generalize a.tmps.getD 80 undef = y80
                generalize a.tmps.getD 81 undef = y81
                generalize a.tmps.getD 82 undef = y82
                generalize a.tmps.getD 83 undef = y83
                generalize a.tmps.getD 84 undef = y84
                generalize a.tmps.getD 85 undef = y85
                generalize a.tmps.getD 86 undef = y86
                generalize a.tmps.getD 87 undef = y87
                generalize a.tmps.getD 88 undef = y88
                generalize a.tmps.getD 89 undef = y89
                generalize a.tmps.getD 90 undef = y90
                generalize a.tmps.getD 91 undef = y91
                repeat' (first | go_values | go_skip | go_guarded | go_step | go_upon)
                exact bodyPost_ret (v := .bool true) (by simp [results, Tryd.results4, go_sem]) rfl ⟨rfl, HB.out.trans (hS2.mono HB.out.size)⟩
end Go.Proofs.YtofbmlfpkcociaaDoor
