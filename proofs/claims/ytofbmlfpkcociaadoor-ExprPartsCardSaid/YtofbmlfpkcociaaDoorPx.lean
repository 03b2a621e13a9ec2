/- ExprParts by its contract: it returns true. Condition: utf8.ValidString keeps its contract. -/
import Derived.Test.YtofbmlfpkcociaaDoorKn
import Derived.Test.YtofbmlfpkcociaaDoorFw
import Derived.Test.YtofbmlfpkcociaaDoorTo
import Derived.Test.YtofbmlfpkcociaaDoorPt
import Derived.Test.YtofbmlfpkcociaaDoorPhu
set_option linter.unusedVariables false
set_option linter.unusedSimpArgs false
namespace Go.Proofs.YtofbmlfpkcociaaDoor
open Go.RowKit

set_option maxRecDepth 20000 in
set_option maxHeartbeats 8000000 in
theorem partsLaw {w : World} (HV : Val w) {p : Pay} {ks : List Tr} {A : Option Addr} {c : Nat} (hat : AtT w p ks A c) (n : Nat) (hn : n < 256) :
    Calls Tryd.prog 3 #[.agg (ec p (.slice A ks.length c)).toArray, .int .u8 n] w fun e W => e = .returned (.bool true) ∧ Below w.heap.size w W := by
  obtain ⟨w1, hw1⟩ : ∃ w1, w1 = w.alloc (.cells (ec p (.slice A ks.length c)).toArray 32) := ⟨_, rfl⟩
  have hb1 : Below w.heap.size w w1 := by rw [hw1]; exact bel0 _ _
  obtain ⟨b, hb0⟩ : ∃ b, b = w.heap.size := ⟨_, rfl⟩
  have hbx : Bk w1 b 32 (ec p (.slice A ks.length c)).toArray := by rw [hw1, hb0]; exact Bk.new _ _ _
  have h1 := hat.below hb1
  have HV1 := HV.below hb1
  have HX := Lib.hid (And.intro HV1 (And.intro hbx (And.intro h1 hn)))
  have HB := Lib.hid hb1
  clear HV HV1 hb1 hbx h1 hat hn
  go_enter Tryd.func3, Tryd.ntmps3
  repeat' (first | go_values | go_skip | go_guarded | go_step | go_upon)
  rw [← hb0, ← hw1]
  clear hw1 hb0
  refine (known_any HX.out.1).mono ?_
  rintro e W1 ⟨rfl, hB1⟩
  have HX := Lib.hid (And.intro (HX.out.1.below hB1) (And.intro (HX.out.2.1.below hB1 HX.out.2.1.lt) (And.intro (HX.out.2.2.1.below hB1) HX.out.2.2.2)))
  have HB := Lib.hid (HB.out.trans (hB1.mono HB.out.size))
  clear hB1
  dsimp only
  repeat' (first | ((with_reducible show Oper.wp _ _ _ _ _ _); apply stop_r; exact rfl) | go_values | go_skip | go_guarded | go_step | go_upon)
  refine Lib.hid ?_
  apply ld_r
  · exact rfl
  · exact rfl
  · exact HX.out.2.1
  go_simp
  repeat' (first | go_values | go_skip | go_guarded | go_step | go_upon)
  refine (Few_any (most := 300) HX.out.2.2.1 (by omega)).mono ?_
  rintro e W2 ⟨few, rfl, hB2, hfew⟩
  have HX := Lib.hid (And.intro (HX.out.1.below hB2) (And.intro (HX.out.2.1.below hB2 HX.out.2.1.lt) (And.intro (HX.out.2.2.1.below hB2) HX.out.2.2.2)))
  have c17 : W2.cell? ⟨b, 17, none⟩ = some (.slice A ks.length c) := HX.out.2.1.cell 17
  have HB := Lib.hid (HB.out.trans (hB2.mono HB.out.size))
  clear hB2
  dsimp only
  cases few with
  | false =>
    clear hfew
    repeat' (first | go_values | go_skip | go_guarded | go_step | go_upon)
    exact bodyPost_ret (v := .bool true) (by simp [results, Tryd.results3, go_sem]) rfl ⟨rfl, HB.out⟩
  | true =>
    have HF := Lib.hid (hfew rfl)
    clear hfew
    by_cases hz : ks.length = 0
    · have hz' : ((ks.length : Int) == 0) = true := by rw [beq_iff_eq]; omega
      repeat' (first | go_values | go_skip | go_guarded | go_step | go_upon)
      exact bodyPost_ret (v := .bool true) (by simp [results, Tryd.results3, go_sem]) rfl ⟨rfl, HB.out⟩
    have hz' : ((ks.length : Int) == 0) = false := by rw [beq_eq_false_iff_ne]; omega
    have hbk := HX.out.2.1
    repeat' (first | ((with_reducible show Oper.wp _ _ _ _ _ _); apply ld_r; exact rfl; exact rfl; assumption; go_simp) | go_values | go_skip | go_guarded | go_step | go_upon)
    clear hbk c17 hz'
    refine (to_any 300 p ks HF.out.1 (by omega) W2 A c HX.out.2.2.1).mono ?_
    rintro e W3 ⟨v, rfl, hT, hB3⟩
    obtain ⟨A2, c2, rfl, hc2, hrow⟩ := hT
    have hat3 : AtT W3 p ks A2 c2 := ⟨hc2, hrow.move (Move.wide fun i hi => hi.2)⟩
    have HX := Lib.hid (And.intro (HX.out.1.below hB3) (And.intro hat3 HX.out.2.2.2))
    have hk0 : Bk (W3.alloc (.cells #[.int .i64 0, .int .i64 0, .int .i64 0, .int .i64 0, .string ⟨#[]⟩, .bool false, .int .i64 0, .int .i64 0, .int .i64 0, .bool false, .bool false, .int .i64 0, .int .i64 0, .bool false, .bool false, .int .i64 0, .int .i64 0, .slice none 0 0] 43)) W3.heap.size 43 (ec zp (.slice none 0 0)).toArray := Bk.new _ _ _
    have HB := Lib.hid (HB.out.trans (hB3.mono HB.out.size))
    clear hB3 hc2 hrow hat3
    dsimp only
    repeat' (first | ((with_reducible show Oper.wp _ _ _ _ _ _); apply stop_s; exact rfl) | go_values | go_skip | go_guarded | go_step | go_upon)
    refine Lib.hid ?_
    apply st_p
    · exact rfl
    · exact rfl
    · exact rfl
    · exact hk0
    · exact rfl
    intro W4 hk5 hK4 hz4
    have hb4 := made_box hK4
    have HX := Lib.hid (And.intro (HX.out.1.below hb4) (And.intro (HX.out.2.1.below hb4) HX.out.2.2))
    have HB := Lib.hid (HB.out.trans (hb4.mono HB.out.size))
    clear hk0 hK4 hz4 hb4
    have hl5 := hk5.lt
    generalize W3.heap.size = g5 at *
    go_simp
    repeat' (first | go_values | go_skip | go_guarded | go_step | go_upon)
    obtain ⟨j, hj⟩ : ∃ j, j = n % ks.length := ⟨_, rfl⟩
    have hjl : j < ks.length := by rw [hj]; exact Nat.mod_lt _ (by omega)
    obtain ⟨aa, rfl, hab, hall⟩ := HX.out.2.1.2.at_ (by omega)
    obtain ⟨t, ht⟩ : ∃ t, ks[j]? = some t := ⟨_, List.getElem?_eq_getElem hjl⟩
    obtain ⟨p', ks'⟩ := t
    obtain ⟨cs, hcs, hcell⟩ := hall j (.mk p' ks') ht
    obtain ⟨A', c', rfl, hc', hkr'⟩ := tree_mk.1 (show LiT W4 (· < W4.heap.size) (.mk p' ks') cs from hcs)
    have HK : Hid (AtT W4 p' ks' A' c') := Lib.hid ⟨hc', hkr'⟩
    have HE : Hid (∀ W, Below W4.heap.size W4 W → ∀ (q : Nat) (u : Value), (ec p' (.slice A' ks'.length c'))[q]? = some u → W.cell? ((aa.add (j * 18)).add q) = some u) := Lib.hid fun W hK q u hu => by
      rw [add_add]
      exact (hK.cell (by rw [add_block]; exact hab)).trans (hcell q u hu)
    have hlen : ks.length ≤ 300 := by
      have := cnt_len ks
      have h2 := HF.out.1
      simp only [cntT] at h2
      omega
    have hn8 : n < 256 := HX.out.2.2
    have hz3 : ((ks.length : Int) == 0) = false := by rw [beq_eq_false_iff_ne]; omega
    have hjl' : (j : Int) < (ks.length : Int) := Int.ofNat_lt.2 hjl
    have hj0 : (0 : Int) ≤ (j : Int) := Int.natCast_nonneg j
    have hrem : ((n : Int).tmod (ks.length : Int)) = (j : Int) := by rw [hj]; exact (Int.ofNat_tmod n ks.length).symm
    clear hj
    have hcv : IntKind.i64.wrap (n : Int) = (n : Int) := IntWalk.i64_in _ (by clear hrem; omega)
    clear hn8 hlen
    clear hab hall hcs hcell hkr' hc'
    refine wp_region_phases (S := (fun vals W => match vals with | [] => Below W4.heap.size W4 W | [v] => ∃ g, v = .pointer (some ⟨g, 0, none⟩) ∧ W4.heap.size ≤ g ∧ Bk W g 43 #[.int .i64 0, .int .i64 0, .int .i64 0, .int .i64 0, .string ⟨#[]⟩, .bool false, .int .i64 0, .int .i64 0, .int .i64 0, .bool false, .bool false, .int .i64 0, .int .i64 0, .bool false, .bool false, .int .i64 0, .int .i64 0, .slice none 0 0] ∧ Below W4.heap.size W4 W | v :: _ :: _ => ∃ g, v = .pointer (some ⟨g, 0, none⟩) ∧ W4.heap.size ≤ g ∧ Bk W g 43 ([.int .i64 p'.kind, .int .i64 p'.vk, .int .i64 p'.vm, .int .i64 p'.vs, .string p'.vt, .bool p'.vb, .int .i64 p'.ve, .int .i64 p'.r1, .int .i64 p'.c1, .bool p'.x1, .bool p'.y1, .int .i64 p'.r2, .int .i64 p'.c2, .bool p'.x2, .bool p'.y2, .int .i64 p'.sheet, .int .i64 p'.op, .slice A' ks'.length c'] : List Value).toArray ∧ Below W4.heap.size W4 W)) (E := (fun _ _ => True)) [10, 11] [(1, Is (.int .u8 n)), (5, Is (.pointer (some ⟨g5, 0, none⟩)))] [(20, Is (.pointer (some ⟨g5, 17, none⟩))), (21, Is (.slice (some aa) ks.length c2)), (22, Is (.int .u8 n)), (23, Is (.int .i64 n)), (24, Is (.pointer (some ⟨g5, 17, none⟩))), (25, Is (.slice (some aa) ks.length c2)), (26, Is (.int .i64 ks.length)), (27, Is (.int .i64 j)), (28, Is (.pointer (some (aa.add (j * 18))))), (29, Is (.agg (ec p' (.slice A' ks'.length c')).toArray))]
      [.op [5] none, .op [20] none, .op [1] none, .op [22] none, .op [5] none, .op [24] none, .op [25] none, .op [23, 26] none, .op [21, 27] none, .op [28] none, .phase 0 [] [], .phase 1 [29] [(0, 6)]] (by as_aux_lemma => kernel_rfl) ?_ ?_ ?_ ?_ ?_ ⟨stable_is _ _, stable_is _ _, stable_is _ _, stable_is _ _, stable_is _ _, stable_is _ _, stable_is _ _, stable_is _ _, stable_is _ _, stable_is _ _, stable_is _ _, stable_is _ _, trivial⟩ ?_ (Below.refl _ _).drew ?_ ?_
    · as_aux_lemma => kernel_rfl
    · as_aux_lemma => kernel_rfl
    · as_aux_lemma => kernel_rfl
    · as_aux_lemma => kernel_rfl
    · as_aux_lemma => kernel_rfl
    · exact ⟨rfl, rfl, trivial⟩
    · refine ⟨?_, ?_, ?_, ?_, ?_, ?_, ?_, ?_, ?_, ?_, ?_, ?_, trivial⟩
      · as_aux_lemma =>
          intro vals a W hS hL
          have e5 : a.tmps.getD 5 undef = .pointer (some ⟨g5, 0, none⟩) := hL.1
          clear hL
          go_simp
          exact ⟨⟨fun d hd => by injection hd with hd; subst hd; rfl, fun h => by cases h⟩, hS, trivial⟩
      · as_aux_lemma =>
          intro vals a W hS hL
          have e20 : a.tmps.getD 20 undef = .pointer (some ⟨g5, 17, none⟩) := hL.1
          clear hL
          have hB : Below W4.heap.size W4 W := by
            match vals, hS with
            | [], hS => exact hS
            | [_], hS => obtain ⟨g, _, _, _, hS⟩ := hS; exact hS
            | _ :: _ :: _, hS => obtain ⟨g, _, _, _, hS⟩ := hS; exact hS
          have f17 : W.cell? ⟨g5, 17, none⟩ = some (.slice (some aa) ks.length c2) := (hk5.below hB hl5).cell 17
          clear hB
          go_simp
          exact ⟨⟨fun d hd => by injection hd with hd; subst hd; rfl, fun h => by cases h⟩, hS, trivial⟩
      · as_aux_lemma =>
          intro vals a W hS hL
          have e1 : a.tmps.getD 1 undef = .int .u8 n := hL.1
          clear hL
          go_simp
          exact ⟨⟨fun d hd => by injection hd with hd; subst hd; rfl, fun h => by cases h⟩, hS, trivial⟩
      · as_aux_lemma =>
          intro vals a W hS hL
          have e22 : a.tmps.getD 22 undef = .int .u8 n := hL.1
          clear hL
          rw [Array.getD_eq_getD_getElem?] at e22
          go_simp
          exact ⟨⟨fun d hd => by injection hd with hd; subst hd; rfl, fun h => by cases h⟩, hS, trivial⟩
      · as_aux_lemma =>
          intro vals a W hS hL
          have e5 : a.tmps.getD 5 undef = .pointer (some ⟨g5, 0, none⟩) := hL.1
          clear hL
          go_simp
          exact ⟨⟨fun d hd => by injection hd with hd; subst hd; rfl, fun h => by cases h⟩, hS, trivial⟩
      · as_aux_lemma =>
          intro vals a W hS hL
          have e24 : a.tmps.getD 24 undef = .pointer (some ⟨g5, 17, none⟩) := hL.1
          clear hL
          have hB : Below W4.heap.size W4 W := by
            match vals, hS with
            | [], hS => exact hS
            | [_], hS => obtain ⟨g, _, _, _, hS⟩ := hS; exact hS
            | _ :: _ :: _, hS => obtain ⟨g, _, _, _, hS⟩ := hS; exact hS
          have f17 : W.cell? ⟨g5, 17, none⟩ = some (.slice (some aa) ks.length c2) := (hk5.below hB hl5).cell 17
          clear hB
          go_simp
          exact ⟨⟨fun d hd => by injection hd with hd; subst hd; rfl, fun h => by cases h⟩, hS, trivial⟩
      · as_aux_lemma =>
          intro vals a W hS hL
          have e25 : a.tmps.getD 25 undef = .slice (some aa) ks.length c2 := hL.1
          clear hL
          rw [Array.getD_eq_getD_getElem?] at e25
          go_simp
          exact ⟨⟨fun d hd => by injection hd with hd; subst hd; rfl, fun h => by cases h⟩, hS, trivial⟩
      · as_aux_lemma =>
          intro vals a W hS hL
          have e23 : a.tmps.getD 23 undef = .int .i64 n := hL.1
          have e26 : a.tmps.getD 26 undef = .int .i64 ks.length := hL.2.1
          clear hL
          rw [Array.getD_eq_getD_getElem?] at e23 e26
          go_simp
          exact ⟨⟨fun d hd => by injection hd with hd; subst hd; rfl, fun h => by cases h⟩, hS, trivial⟩
      · as_aux_lemma =>
          intro vals a W hS hL
          have e21 : a.tmps.getD 21 undef = .slice (some aa) ks.length c2 := hL.1
          have e27 : a.tmps.getD 27 undef = .int .i64 j := hL.2.1
          clear hL
          rw [Array.getD_eq_getD_getElem?] at e21 e27
          go_simp
          exact ⟨⟨fun d hd => by injection hd with hd; subst hd; rfl, fun h => by cases h⟩, hS, trivial⟩
      · as_aux_lemma =>
          intro vals a W hS hL
          have e28 : a.tmps.getD 28 undef = .pointer (some (aa.add (j * 18))) := hL.1
          clear hL
          have hB : Below W4.heap.size W4 W := by
            match vals, hS with
            | [], hS => exact hS
            | [_], hS => obtain ⟨g, _, _, _, hS⟩ := hS; exact hS
            | _ :: _ :: _, hS => obtain ⟨g, _, _, _, hS⟩ := hS; exact hS
          refine lands_v (run_ldm (.tmp 28) rfl e28 (HE.out W hB)) ?_
          exact ⟨⟨fun d hd => by injection hd with hd; subst hd; rfl, fun h => by cases h⟩, hS, trivial⟩
      · as_aux_lemma =>
          intro a W vals hv hS hL hp
          clear hL
          match vals, hv, hS with
          | [], _, hS =>
            go_simp
            exact ⟨⟨_, rfl, hS.size, Bk.new _ _ _, Below.alloc hS hS.size _⟩, trivial, trivial⟩
      · as_aux_lemma =>
          intro a W vals hv hS hL hp
          have e29 : a.tmps.getD 29 undef = .agg (ec p' (.slice A' ks'.length c')).toArray := hL.1
          clear hL
          match vals, hv, hS, hp with
          | [u], _, hS, hp =>
            obtain ⟨g, rfl, hg, hkg, hB⟩ := hS
            have e6 := (Option.some.inj (hp.1 (by simp))).symm
            refine lands_st (g := g) (cs := ec zp (.slice none 0 0)) (vs := [.int .i64 p'.kind, .int .i64 p'.vk, .int .i64 p'.vm, .int .i64 p'.vs, .string p'.vt, .bool p'.vb, .int .i64 p'.ve, .int .i64 p'.r1, .int .i64 p'.c1, .bool p'.x1, .bool p'.y1, .int .i64 p'.r2, .int .i64 p'.c2, .bool p'.x2, .bool p'.y2, .int .i64 p'.sheet, .int .i64 p'.op, .slice A' ks'.length c']) (.tmp 6) (.tmp 29) rfl e6 e29 (by kernel_rfl) (by intro v hv; simp only [List.mem_cons, List.not_mem_nil, or_false] at hv; rcases hv with rfl | rfl | rfl | rfl | rfl | rfl | rfl | rfl | rfl | rfl | rfl | rfl | rfl | rfl | rfl | rfl | rfl | rfl <;> rfl) hkg rfl ?_
            exact ⟨⟨g, rfl, hg, filled (cs := ec zp (.slice none 0 0)) hkg rfl, hB.trans ((setCells_keep _ _ _).below (B := W4.heap.size) hB.size fun i hi e => by omega)⟩, trivial, trivial⟩
    intro a W' vals hd hsz hT hF hv hP hS
    obtain ⟨v0, v1, rfl⟩ : ∃ v0 v1, vals = [v0, v1] := by
      match vals, hv with
      | [x, y], _ => exact ⟨x, y, rfl⟩
    obtain ⟨g6, rfl, hgl, hkg, hB⟩ := hS
    have e6 : a.tmps.getD 6 undef = .pointer (some ⟨g6, 0, none⟩) := by
      have := hP 0 10 _ 6 rfl (by simp) rfl rfl
      simpa using this.symm
    have e5 : a.tmps.getD 5 undef = .pointer (some ⟨g5, 0, none⟩) := hT 5 (by simp)
    clear hT hF hP
    rw [act_lit 60 a hd hsz]
    simp only [List.range, List.range.loop, List.map, e5, e6]
    clear hd hsz e5 e6
    generalize a.tmps.getD 0 undef = y0
    generalize a.tmps.getD 1 undef = y1
    generalize a.tmps.getD 2 undef = y2
    generalize a.tmps.getD 3 undef = y3
    generalize a.tmps.getD 4 undef = y4
    generalize a.tmps.getD 7 undef = y7
    generalize a.tmps.getD 8 undef = y8
    generalize a.tmps.getD 9 undef = y9
    generalize a.tmps.getD 10 undef = y10
    generalize a.tmps.getD 11 undef = y11
    generalize a.tmps.getD 12 undef = y12
    generalize a.tmps.getD 13 undef = y13
    generalize a.tmps.getD 14 undef = y14
    generalize a.tmps.getD 15 undef = y15
    generalize a.tmps.getD 16 undef = y16
    generalize a.tmps.getD 17 undef = y17
    generalize a.tmps.getD 18 undef = y18
    generalize a.tmps.getD 19 undef = y19
    generalize a.tmps.getD 20 undef = y20
    generalize a.tmps.getD 21 undef = y21
    generalize a.tmps.getD 22 undef = y22
    generalize a.tmps.getD 23 undef = y23
    generalize a.tmps.getD 24 undef = y24
    generalize a.tmps.getD 25 undef = y25
    generalize a.tmps.getD 26 undef = y26
    generalize a.tmps.getD 27 undef = y27
    generalize a.tmps.getD 28 undef = y28
    generalize a.tmps.getD 29 undef = y29
    generalize a.tmps.getD 30 undef = y30
    generalize a.tmps.getD 31 undef = y31
    generalize a.tmps.getD 32 undef = y32
    generalize a.tmps.getD 33 undef = y33
    generalize a.tmps.getD 34 undef = y34
    generalize a.tmps.getD 35 undef = y35
    generalize a.tmps.getD 36 undef = y36
    generalize a.tmps.getD 37 undef = y37
    generalize a.tmps.getD 38 undef = y38
    generalize a.tmps.getD 39 undef = y39
    generalize a.tmps.getD 40 undef = y40
    generalize a.tmps.getD 41 undef = y41
    generalize a.tmps.getD 42 undef = y42
    generalize a.tmps.getD 43 undef = y43
    generalize a.tmps.getD 44 undef = y44
    generalize a.tmps.getD 45 undef = y45
    generalize a.tmps.getD 46 undef = y46
    generalize a.tmps.getD 47 undef = y47
    generalize a.tmps.getD 48 undef = y48
    generalize a.tmps.getD 49 undef = y49
    generalize a.tmps.getD 50 undef = y50
    generalize a.tmps.getD 51 undef = y51
    generalize a.tmps.getD 52 undef = y52
    generalize a.tmps.getD 53 undef = y53
    generalize a.tmps.getD 54 undef = y54
    generalize a.tmps.getD 55 undef = y55
    generalize a.tmps.getD 56 undef = y56
    generalize a.tmps.getD 57 undef = y57
    generalize a.tmps.getD 58 undef = y58
    generalize a.tmps.getD 59 undef = y59
    have hk6 : Bk W' g6 43 (ec p' (.slice A' ks'.length c')).toArray := hkg
    have hk5' := hk5.below hB hl5
    have HX := Lib.hid (And.intro (HX.out.1.below hB) (And.intro (HX.out.2.1.below hB) (HK.out.below hB)))
    have HT := Lib.hid ht
    have HB := Lib.hid (HB.out.trans (hB.mono HB.out.size))
    clear hkg hk5 hB hgl hl5 hrem hcv hjl hjl' hj0 hz3 HE HK ht hv
    have hk5 := hk5'
    clear hk5'
    have hl5 := hk5.lt
    have hl6 := hk6.lt
    generalize W' = W7 at *
    repeat' (first | go_values | go_skip | go_guarded | go_step | go_upon)
    have hcx : cntT (.mk p ks) ≤ 100000 := Nat.le_trans HF.out.1 (by omega)
    have hsx : ShortN (ndT (.mk p ks)) := fun q hq => Nat.le_trans (HF.out.2 q hq) (by omega)
    have htk : Tr.mk p' ks' ∈ ks := List.mem_of_getElem? HT.out
    have hck : cntT (.mk p' ks') ≤ 100000 := Nat.le_trans (Nat.le_trans (cnt_mem htk) (Nat.le_succ _)) hcx
    have hsk : ShortN (ndT (.mk p' ks')) := fun q hq => hsx q (List.mem_cons_of_mem _ (nd_mem hq htk))
    have HCx : Hid (∀ W, Below W7.heap.size W7 W → Calls Tryd.prog 9 #[.agg (ec p (.slice (some aa) ks.length c2)).toArray] W fun e W2 => e = .returned (.int .i64 (ckT oneE (.mk p ks))) ∧ Below W.heap.size W W2) := Lib.hid fun W hW => check_t (HX.out.1.below hW) (HX.out.2.1.below hW) hcx hsx
    have HCk : Hid (∀ W, Below W7.heap.size W7 W → Calls Tryd.prog 9 #[.agg (ec p' (.slice A' ks'.length c')).toArray] W fun e W2 => e = .returned (.int .i64 (ckT oneE (.mk p' ks'))) ∧ Below W.heap.size W W2) := Lib.hid fun W hW => check_t (HX.out.1.below hW) (HX.out.2.2.below hW) hck hsk
    have HDx : Hid (∀ W, Below W7.heap.size W7 W → Calls Tryd.prog 10 #[.agg (ec p (.slice (some aa) ks.length c2)).toArray] W fun e W2 => e = .returned (.int .i64 (dpT (.mk p ks) : Nat)) ∧ Below W.heap.size W W2) := Lib.hid fun W hW => depth_any (HX.out.2.1.below hW) hcx
    have HDk : Hid (∀ W, Below W7.heap.size W7 W → Calls Tryd.prog 10 #[.agg (ec p' (.slice A' ks'.length c')).toArray] W fun e W2 => e = .returned (.int .i64 (dpT (.mk p' ks') : Nat)) ∧ Below W.heap.size W W2) := Lib.hid fun W hW => depth_any (HX.out.2.2.below hW) hck
    have HNx : Hid (∀ W, Below W7.heap.size W7 W → Calls Tryd.prog 11 #[.agg (ec p (.slice (some aa) ks.length c2)).toArray] W fun e W2 => e = .returned (.int .i64 (cntT (.mk p ks) : Nat)) ∧ Below W.heap.size W W2) := Lib.hid fun W hW => count_any (HX.out.2.1.below hW) hcx
    have HNk : Hid (∀ W, Below W7.heap.size W7 W → Calls Tryd.prog 11 #[.agg (ec p' (.slice A' ks'.length c')).toArray] W fun e W2 => e = .returned (.int .i64 (cntT (.mk p' ks') : Nat)) ∧ Below W.heap.size W W2) := Lib.hid fun W hW => count_any (HX.out.2.2.below hW) hck
    have HP : Hid (ckT oneE (.mk p ks) = 0 → ckT oneE (.mk p' ks') = 0 ∧ dpT (.mk p' ks') < dpT (.mk p ks) ∧ cntT (.mk p' ks') < cntT (.mk p ks)) := Lib.hid (part_of htk)
    clear hcx hsx htk hck hsk HT
    generalize ckT oneE (.mk p ks) = rx at *
    generalize ckT oneE (.mk p' ks') = rk at *
    generalize dpT (.mk p ks) = dx at *
    generalize dpT (.mk p' ks') = dk at *
    generalize cntT (.mk p ks) = nx at *
    generalize cntT (.mk p' ks') = nk at *
    by_cases h0 : rx = 0
    · obtain ⟨hk0, hdd, hnn⟩ := HP.out h0
      subst h0 hk0
      have hdd' : decide ((dk : Int) ≥ (dx : Int)) = false := by rw [decide_eq_false_iff_not]; omega
      have hnn' : decide ((nk : Int) ≥ (nx : Int)) = false := by rw [decide_eq_false_iff_not]; omega
      have hd1 : ¬ ((dx : Int) ≤ (dk : Int)) := by omega
      have hn1 : ¬ ((nx : Int) ≤ (nk : Int)) := by omega
      clear hdd hnn
      refine wp_region_phu (S := (fun _ W => Below W7.heap.size W7 W)) (E := (fun _ _ => True)) [] [(5, Is (.pointer (some ⟨g5, 0, none⟩))), (6, Is (.pointer (some ⟨g6, 0, none⟩)))] [(30, Is (.agg (ec p (.slice (some aa) ks.length c2)).toArray)), (31, Is (.int .i64 0)), (32, Is (.bool true)), (33, Is (.bool true)), (34, Is (.agg (ec p' (.slice A' ks'.length c')).toArray)), (35, Is (.int .i64 0)), (36, Is (.bool false)), (37, Is (.bool false)), (38, Is (.agg (ec p' (.slice A' ks'.length c')).toArray)), (39, Is (.int .i64 dk)), (40, Is (.agg (ec p (.slice (some aa) ks.length c2)).toArray)), (41, Is (.int .i64 dx)), (42, Is (.bool false)), (43, Is (.bool false)), (44, Is (.bool false)), (45, Is (.agg (ec p' (.slice A' ks'.length c')).toArray)), (46, Is (.int .i64 nk)), (47, Is (.agg (ec p (.slice (some aa) ks.length c2)).toArray)), (48, Is (.int .i64 nx)), (49, Is (.bool false)), (50, Is (.bool false)), (51, Is (.bool false))]
        [.op [5] none, .op [30] none, .op [31] none, .op [32] none, .op [6, 33] (some (33, true)), .op [34, 33] (some (33, true)), .op [35, 33] (some (33, true)), .op [36, 33] (some (33, true)), .op [6, 37] (some (37, false)), .op [38, 37] (some (37, false)), .op [5, 37] (some (37, false)), .op [40, 37] (some (37, false)), .op [39, 41, 37] (some (37, false)), .op [37, 42, 33] (some (33, true)), .op [43, 33] (some (33, true)), .op [6, 44] (some (44, false)), .op [45, 44] (some (44, false)), .op [5, 44] (some (44, false)), .op [47, 44] (some (44, false)), .op [46, 48, 44] (some (44, false)), .op [44, 49, 33] (some (33, true)), .op [33, 50] none] (by as_aux_lemma => kernel_rfl) ?_ ?_ ?_ ?_ ?_ ⟨stable_is _ _, stable_is _ _, stable_is _ _, stable_is _ _, stable_is _ _, stable_is _ _, stable_is _ _, stable_is _ _, stable_is _ _, stable_is _ _, stable_is _ _, stable_is _ _, stable_is _ _, stable_is _ _, stable_is _ _, stable_is _ _, stable_is _ _, stable_is _ _, stable_is _ _, stable_is _ _, stable_is _ _, stable_is _ _, stable_is _ _, stable_is _ _, trivial⟩ ?_ (Below.refl _ _).drew ?_ ?_
      · as_aux_lemma => kernel_rfl
      · as_aux_lemma => kernel_rfl
      · as_aux_lemma => kernel_rfl
      · as_aux_lemma => kernel_rfl
      · as_aux_lemma => kernel_rfl
      · exact ⟨rfl, rfl, trivial⟩
      · refine ⟨?_, ?_, ?_, ?_, ?_, ?_, ?_, ?_, ?_, ?_, ?_, ?_, ?_, ?_, ?_, ?_, ?_, ?_, ?_, ?_, ?_, ?_, trivial⟩
        · as_aux_lemma =>
            intro vals a W hS hL
            have e5 : a.tmps.getD 5 undef = .pointer (some ⟨g5, 0, none⟩) := hL.1
            clear hL
            refine lands_v (run_ld (.tmp 5) rfl e5 (hk5.below hS hl5)) ?_
            exact ⟨⟨fun d hd => by injection hd with hd; subst hd; rfl, fun h => by cases h⟩, hS, trivial⟩
        · as_aux_lemma =>
            intro vals a W hS hL
            have e30 : a.tmps.getD 30 undef = .agg (ec p (.slice (some aa) ks.length c2)).toArray := hL.1
            clear hL
            go_simp
            refine (HCx.out W hS).mono ?_
            rintro e W2 ⟨rfl, hb⟩
            exact ⟨_, rfl, ⟨fun d hd => by injection hd with hd; subst hd; rfl, fun h => by cases h⟩, hS.trans (hb.mono hS.size), trivial⟩
        · as_aux_lemma =>
            intro vals a W hS hL
            have e31 : a.tmps.getD 31 undef = .int .i64 0 := hL.1
            clear hL
            go_simp
            exact ⟨⟨fun d hd => by injection hd with hd; subst hd; rfl, fun h => by cases h⟩, hS, trivial⟩
        · as_aux_lemma =>
            intro vals a W hS hL
            have e32 : a.tmps.getD 32 undef = .bool true := hL.1
            clear hL
            go_simp
            exact ⟨⟨fun d hd => by injection hd with hd; subst hd; rfl, fun h => by cases h⟩, hS, trivial⟩
        · as_aux_lemma =>
            intro vals a W hS hL
            have e6 : a.tmps.getD 6 undef = .pointer (some ⟨g6, 0, none⟩) := hL.1
            have e33 : a.tmps.getD 33 undef = .bool true := hL.2.1
            clear hL
            refine .inl ⟨true, e33, ?_⟩
            rw [if_pos rfl]
            refine lands_v (run_ld (.tmp 6) rfl e6 (hk6.below hS hl6)) ?_
            exact ⟨⟨fun d hd => by injection hd with hd; subst hd; rfl, fun h => by cases h⟩, hS, trivial⟩
        · as_aux_lemma =>
            intro vals a W hS hL
            have e34 : a.tmps.getD 34 undef = .agg (ec p' (.slice A' ks'.length c')).toArray := hL.1
            have e33 : a.tmps.getD 33 undef = .bool true := hL.2.1
            clear hL
            refine .inl ⟨true, e33, ?_⟩
            rw [if_pos rfl]
            go_simp
            refine (HCk.out W hS).mono ?_
            rintro e W2 ⟨rfl, hb⟩
            exact ⟨_, rfl, ⟨fun d hd => by injection hd with hd; subst hd; rfl, fun h => by cases h⟩, hS.trans (hb.mono hS.size), trivial⟩
        · as_aux_lemma =>
            intro vals a W hS hL
            have e35 : a.tmps.getD 35 undef = .int .i64 0 := hL.1
            have e33 : a.tmps.getD 33 undef = .bool true := hL.2.1
            clear hL
            refine .inl ⟨true, e33, ?_⟩
            rw [if_pos rfl]
            go_simp
            exact ⟨⟨fun d hd => by injection hd with hd; subst hd; rfl, fun h => by cases h⟩, hS, trivial⟩
        · as_aux_lemma =>
            intro vals a W hS hL
            have e36 : a.tmps.getD 36 undef = .bool false := hL.1
            have e33 : a.tmps.getD 33 undef = .bool true := hL.2.1
            clear hL
            refine .inl ⟨true, e33, ?_⟩
            rw [if_pos rfl]
            go_simp
            exact ⟨⟨fun d hd => by injection hd with hd; subst hd; rfl, fun h => by cases h⟩, hS, trivial⟩
        · as_aux_lemma =>
            intro vals a W hS hL
            have e6 : a.tmps.getD 6 undef = .pointer (some ⟨g6, 0, none⟩) := hL.1
            have e37 : a.tmps.getD 37 undef = .bool false := hL.2.1
            clear hL
            refine .inl ⟨false, e37, ?_⟩
            rw [if_pos rfl]
            refine lands_v (run_ld (.tmp 6) rfl e6 (hk6.below hS hl6)) ?_
            exact ⟨⟨fun d hd => by injection hd with hd; subst hd; rfl, fun h => by cases h⟩, hS, trivial⟩
        · as_aux_lemma =>
            intro vals a W hS hL
            have e38 : a.tmps.getD 38 undef = .agg (ec p' (.slice A' ks'.length c')).toArray := hL.1
            have e37 : a.tmps.getD 37 undef = .bool false := hL.2.1
            clear hL
            refine .inl ⟨false, e37, ?_⟩
            rw [if_pos rfl]
            go_simp
            refine (HDk.out W hS).mono ?_
            rintro e W2 ⟨rfl, hb⟩
            exact ⟨_, rfl, ⟨fun d hd => by injection hd with hd; subst hd; rfl, fun h => by cases h⟩, hS.trans (hb.mono hS.size), trivial⟩
        · as_aux_lemma =>
            intro vals a W hS hL
            have e5 : a.tmps.getD 5 undef = .pointer (some ⟨g5, 0, none⟩) := hL.1
            have e37 : a.tmps.getD 37 undef = .bool false := hL.2.1
            clear hL
            refine .inl ⟨false, e37, ?_⟩
            rw [if_pos rfl]
            refine lands_v (run_ld (.tmp 5) rfl e5 (hk5.below hS hl5)) ?_
            exact ⟨⟨fun d hd => by injection hd with hd; subst hd; rfl, fun h => by cases h⟩, hS, trivial⟩
        · as_aux_lemma =>
            intro vals a W hS hL
            have e40 : a.tmps.getD 40 undef = .agg (ec p (.slice (some aa) ks.length c2)).toArray := hL.1
            have e37 : a.tmps.getD 37 undef = .bool false := hL.2.1
            clear hL
            refine .inl ⟨false, e37, ?_⟩
            rw [if_pos rfl]
            go_simp
            refine (HDx.out W hS).mono ?_
            rintro e W2 ⟨rfl, hb⟩
            exact ⟨_, rfl, ⟨fun d hd => by injection hd with hd; subst hd; rfl, fun h => by cases h⟩, hS.trans (hb.mono hS.size), trivial⟩
        · as_aux_lemma =>
            intro vals a W hS hL
            have e39 : a.tmps.getD 39 undef = .int .i64 dk := hL.1
            have e41 : a.tmps.getD 41 undef = .int .i64 dx := hL.2.1
            have e37 : a.tmps.getD 37 undef = .bool false := hL.2.2.1
            clear hL
            refine .inl ⟨false, e37, ?_⟩
            rw [if_pos rfl]
            go_simp
            exact ⟨⟨fun d hd => by injection hd with hd; subst hd; rfl, fun h => by cases h⟩, hS, trivial⟩
        · as_aux_lemma =>
            intro vals a W hS hL
            have e37 : a.tmps.getD 37 undef = .bool false := hL.1
            have e42 : a.tmps.getD 42 undef = .bool false := hL.2.1
            have e33 : a.tmps.getD 33 undef = .bool true := hL.2.2.1
            clear hL
            refine .inl ⟨true, e33, ?_⟩
            rw [if_pos rfl]
            go_simp
            exact ⟨⟨fun d hd => by injection hd with hd; subst hd; rfl, fun h => by cases h⟩, hS, trivial⟩
        · as_aux_lemma =>
            intro vals a W hS hL
            have e43 : a.tmps.getD 43 undef = .bool false := hL.1
            have e33 : a.tmps.getD 33 undef = .bool true := hL.2.1
            clear hL
            refine .inl ⟨true, e33, ?_⟩
            rw [if_pos rfl]
            go_simp
            exact ⟨⟨fun d hd => by injection hd with hd; subst hd; rfl, fun h => by cases h⟩, hS, trivial⟩
        · as_aux_lemma =>
            intro vals a W hS hL
            have e6 : a.tmps.getD 6 undef = .pointer (some ⟨g6, 0, none⟩) := hL.1
            have e44 : a.tmps.getD 44 undef = .bool false := hL.2.1
            clear hL
            refine .inl ⟨false, e44, ?_⟩
            rw [if_pos rfl]
            refine lands_v (run_ld (.tmp 6) rfl e6 (hk6.below hS hl6)) ?_
            exact ⟨⟨fun d hd => by injection hd with hd; subst hd; rfl, fun h => by cases h⟩, hS, trivial⟩
        · as_aux_lemma =>
            intro vals a W hS hL
            have e45 : a.tmps.getD 45 undef = .agg (ec p' (.slice A' ks'.length c')).toArray := hL.1
            have e44 : a.tmps.getD 44 undef = .bool false := hL.2.1
            clear hL
            refine .inl ⟨false, e44, ?_⟩
            rw [if_pos rfl]
            go_simp
            refine (HNk.out W hS).mono ?_
            rintro e W2 ⟨rfl, hb⟩
            exact ⟨_, rfl, ⟨fun d hd => by injection hd with hd; subst hd; rfl, fun h => by cases h⟩, hS.trans (hb.mono hS.size), trivial⟩
        · as_aux_lemma =>
            intro vals a W hS hL
            have e5 : a.tmps.getD 5 undef = .pointer (some ⟨g5, 0, none⟩) := hL.1
            have e44 : a.tmps.getD 44 undef = .bool false := hL.2.1
            clear hL
            refine .inl ⟨false, e44, ?_⟩
            rw [if_pos rfl]
            refine lands_v (run_ld (.tmp 5) rfl e5 (hk5.below hS hl5)) ?_
            exact ⟨⟨fun d hd => by injection hd with hd; subst hd; rfl, fun h => by cases h⟩, hS, trivial⟩
        · as_aux_lemma =>
            intro vals a W hS hL
            have e47 : a.tmps.getD 47 undef = .agg (ec p (.slice (some aa) ks.length c2)).toArray := hL.1
            have e44 : a.tmps.getD 44 undef = .bool false := hL.2.1
            clear hL
            refine .inl ⟨false, e44, ?_⟩
            rw [if_pos rfl]
            go_simp
            refine (HNx.out W hS).mono ?_
            rintro e W2 ⟨rfl, hb⟩
            exact ⟨_, rfl, ⟨fun d hd => by injection hd with hd; subst hd; rfl, fun h => by cases h⟩, hS.trans (hb.mono hS.size), trivial⟩
        · as_aux_lemma =>
            intro vals a W hS hL
            have e46 : a.tmps.getD 46 undef = .int .i64 nk := hL.1
            have e48 : a.tmps.getD 48 undef = .int .i64 nx := hL.2.1
            have e44 : a.tmps.getD 44 undef = .bool false := hL.2.2.1
            clear hL
            refine .inl ⟨false, e44, ?_⟩
            rw [if_pos rfl]
            go_simp
            exact ⟨⟨fun d hd => by injection hd with hd; subst hd; rfl, fun h => by cases h⟩, hS, trivial⟩
        · as_aux_lemma =>
            intro vals a W hS hL
            have e44 : a.tmps.getD 44 undef = .bool false := hL.1
            have e49 : a.tmps.getD 49 undef = .bool false := hL.2.1
            have e33 : a.tmps.getD 33 undef = .bool true := hL.2.2.1
            clear hL
            refine .inl ⟨true, e33, ?_⟩
            rw [if_pos rfl]
            go_simp
            exact ⟨⟨fun d hd => by injection hd with hd; subst hd; rfl, fun h => by cases h⟩, hS, trivial⟩
        · as_aux_lemma =>
            intro vals a W hS hL
            have e33 : a.tmps.getD 33 undef = .bool true := hL.1
            have e50 : a.tmps.getD 50 undef = .bool false := hL.2.1
            clear hL
            go_simp
            exact ⟨⟨fun d hd => by injection hd with hd; subst hd; rfl, fun h => by cases h⟩, hS, trivial⟩
      · intro a W' vals hd hsz hT hF hv hP hS
        obtain rfl : vals = [] := List.eq_nil_of_length_eq_zero hv
        have hS2 : Below W7.heap.size W7 W' := hS
        have e5 : a.tmps.getD 5 undef = .pointer (some ⟨g5, 0, none⟩) := hT 5 (by simp)
        have e6 : a.tmps.getD 6 undef = .pointer (some ⟨g6, 0, none⟩) := hT 6 (by simp)
        have e51 : a.tmps.getD 51 undef = .bool false := hT 51 (by simp)
        clear hT hF hP hS
        rw [act_lit 60 a hd hsz]
        simp only [List.range, List.range.loop, List.map, e5, e6, e51]
        clear e5 e6 e51 hsz hd
        generalize a.tmps.getD 0 undef = y0
        generalize a.tmps.getD 1 undef = y1
        generalize a.tmps.getD 2 undef = y2
        generalize a.tmps.getD 3 undef = y3
        generalize a.tmps.getD 4 undef = y4
        generalize a.tmps.getD 7 undef = y7
        generalize a.tmps.getD 8 undef = y8
        generalize a.tmps.getD 9 undef = y9
        generalize a.tmps.getD 10 undef = y10
        generalize a.tmps.getD 11 undef = y11
        generalize a.tmps.getD 12 undef = y12
        generalize a.tmps.getD 13 undef = y13
        generalize a.tmps.getD 14 undef = y14
        generalize a.tmps.getD 15 undef = y15
        generalize a.tmps.getD 16 undef = y16
        generalize a.tmps.getD 17 undef = y17
        generalize a.tmps.getD 18 undef = y18
        generalize a.tmps.getD 19 undef = y19
        generalize a.tmps.getD 20 undef = y20
        generalize a.tmps.getD 21 undef = y21
        generalize a.tmps.getD 22 undef = y22
        generalize a.tmps.getD 23 undef = y23
        generalize a.tmps.getD 24 undef = y24
        generalize a.tmps.getD 25 undef = y25
        generalize a.tmps.getD 26 undef = y26
        generalize a.tmps.getD 27 undef = y27
        generalize a.tmps.getD 28 undef = y28
        generalize a.tmps.getD 29 undef = y29
        generalize a.tmps.getD 30 undef = y30
        generalize a.tmps.getD 31 undef = y31
        generalize a.tmps.getD 32 undef = y32
        generalize a.tmps.getD 33 undef = y33
        generalize a.tmps.getD 34 undef = y34
        generalize a.tmps.getD 35 undef = y35
        generalize a.tmps.getD 36 undef = y36
        generalize a.tmps.getD 37 undef = y37
        generalize a.tmps.getD 38 undef = y38
        generalize a.tmps.getD 39 undef = y39
        generalize a.tmps.getD 40 undef = y40
        generalize a.tmps.getD 41 undef = y41
        generalize a.tmps.getD 42 undef = y42
        generalize a.tmps.getD 43 undef = y43
        generalize a.tmps.getD 44 undef = y44
        generalize a.tmps.getD 45 undef = y45
        generalize a.tmps.getD 46 undef = y46
        generalize a.tmps.getD 47 undef = y47
        generalize a.tmps.getD 48 undef = y48
        generalize a.tmps.getD 49 undef = y49
        generalize a.tmps.getD 50 undef = y50
        generalize a.tmps.getD 52 undef = y52
        generalize a.tmps.getD 53 undef = y53
        generalize a.tmps.getD 54 undef = y54
        generalize a.tmps.getD 55 undef = y55
        generalize a.tmps.getD 56 undef = y56
        generalize a.tmps.getD 57 undef = y57
        generalize a.tmps.getD 58 undef = y58
        generalize a.tmps.getD 59 undef = y59
        have hk5b := hk5.below hS2 hl5
        have hk6b := hk6.below hS2 hl6
        have HB := Lib.hid (HB.out.trans (hS2.mono HB.out.size))
        generalize W' = W8 at *
        repeat' (first | ((with_reducible show Oper.wp _ _ _ _ _ _); apply ld_p; exact rfl; exact rfl; assumption; go_simp) | go_values | go_skip | go_guarded | go_step | go_upon)
        refine (HCk.out _ hS2).mono ?_
        rintro e W9 ⟨rfl, hb9⟩
        have HB := Lib.hid (HB.out.trans (hb9.mono HB.out.size))
        dsimp only
        repeat' (first | go_values | go_skip | go_guarded | go_step | go_upon)
        exact bodyPost_ret (v := .bool true) (by simp [results, Tryd.results3, go_sem]) rfl ⟨rfl, HB.out⟩
    · have h0' : (rx == 0) = false := by rw [beq_eq_false_iff_ne]; exact h0
      refine wp_region_phu (S := (fun _ W => Below W7.heap.size W7 W)) (E := (fun _ _ => True)) [] [(5, Is (.pointer (some ⟨g5, 0, none⟩))), (6, Is (.pointer (some ⟨g6, 0, none⟩)))] [(30, Is (.agg (ec p (.slice (some aa) ks.length c2)).toArray)), (31, Is (.int .i64 rx)), (32, Is (.bool false)), (33, Is (.bool false)), (34, Is (undef)), (35, Is (undef)), (36, Is (undef)), (37, Is (undef)), (38, Is (undef)), (39, Is (undef)), (40, Is (undef)), (41, Is (undef)), (42, Is (undef)), (43, Is (undef)), (44, Is (undef)), (45, Is (undef)), (46, Is (undef)), (47, Is (undef)), (48, Is (undef)), (49, Is (undef)), (50, Is (undef)), (51, Is (.bool false))]
        [.op [5] none, .op [30] none, .op [31] none, .op [32] none, .op [6, 33] (some (33, true)), .op [34, 33] (some (33, true)), .op [35, 33] (some (33, true)), .op [36, 33] (some (33, true)), .op [6, 37] (some (37, false)), .op [38, 37] (some (37, false)), .op [5, 37] (some (37, false)), .op [40, 37] (some (37, false)), .op [39, 41, 37] (some (37, false)), .op [37, 42, 33] (some (33, true)), .op [43, 33] (some (33, true)), .op [6, 44] (some (44, false)), .op [45, 44] (some (44, false)), .op [5, 44] (some (44, false)), .op [47, 44] (some (44, false)), .op [46, 48, 44] (some (44, false)), .op [44, 49, 33] (some (33, true)), .op [33, 50] none] (by as_aux_lemma => kernel_rfl) ?_ ?_ ?_ ?_ ?_ ⟨stable_is _ _, stable_is _ _, stable_is _ _, stable_is _ _, stable_is _ _, stable_is _ _, stable_is _ _, stable_is _ _, stable_is _ _, stable_is _ _, stable_is _ _, stable_is _ _, stable_is _ _, stable_is _ _, stable_is _ _, stable_is _ _, stable_is _ _, stable_is _ _, stable_is _ _, stable_is _ _, stable_is _ _, stable_is _ _, stable_is _ _, stable_is _ _, trivial⟩ ?_ (Below.refl _ _).drew ?_ ?_
      · as_aux_lemma => kernel_rfl
      · as_aux_lemma => kernel_rfl
      · as_aux_lemma => kernel_rfl
      · as_aux_lemma => kernel_rfl
      · as_aux_lemma => kernel_rfl
      · exact ⟨rfl, rfl, trivial⟩
      · refine ⟨?_, ?_, ?_, ?_, ?_, ?_, ?_, ?_, ?_, ?_, ?_, ?_, ?_, ?_, ?_, ?_, ?_, ?_, ?_, ?_, ?_, ?_, trivial⟩
        · as_aux_lemma =>
            intro vals a W hS hL
            have e5 : a.tmps.getD 5 undef = .pointer (some ⟨g5, 0, none⟩) := hL.1
            clear hL
            refine lands_v (run_ld (.tmp 5) rfl e5 (hk5.below hS hl5)) ?_
            exact ⟨⟨fun d hd => by injection hd with hd; subst hd; rfl, fun h => by cases h⟩, hS, trivial⟩
        · as_aux_lemma =>
            intro vals a W hS hL
            have e30 : a.tmps.getD 30 undef = .agg (ec p (.slice (some aa) ks.length c2)).toArray := hL.1
            clear hL
            go_simp
            refine (HCx.out W hS).mono ?_
            rintro e W2 ⟨rfl, hb⟩
            exact ⟨_, rfl, ⟨fun d hd => by injection hd with hd; subst hd; rfl, fun h => by cases h⟩, hS.trans (hb.mono hS.size), trivial⟩
        · as_aux_lemma =>
            intro vals a W hS hL
            have e31 : a.tmps.getD 31 undef = .int .i64 rx := hL.1
            clear hL
            go_simp
            exact ⟨⟨fun d hd => by injection hd with hd; subst hd; rfl, fun h => by cases h⟩, hS, trivial⟩
        · as_aux_lemma =>
            intro vals a W hS hL
            have e32 : a.tmps.getD 32 undef = .bool false := hL.1
            clear hL
            go_simp
            exact ⟨⟨fun d hd => by injection hd with hd; subst hd; rfl, fun h => by cases h⟩, hS, trivial⟩
        · as_aux_lemma =>
            intro vals a W hS hL
            have e6 : a.tmps.getD 6 undef = .pointer (some ⟨g6, 0, none⟩) := hL.1
            have e33 : a.tmps.getD 33 undef = .bool false := hL.2.1
            clear hL
            refine .inl ⟨false, e33, ?_⟩
            rw [if_neg (by decide)]
            exact ⟨⟨fun d hd => by injection hd with hd; subst hd; rfl, fun h => by cases h⟩, trivial⟩
        · as_aux_lemma =>
            intro vals a W hS hL
            have e34 : a.tmps.getD 34 undef = undef := hL.1
            have e33 : a.tmps.getD 33 undef = .bool false := hL.2.1
            clear hL
            refine .inl ⟨false, e33, ?_⟩
            rw [if_neg (by decide)]
            exact ⟨⟨fun d hd => by injection hd with hd; subst hd; rfl, fun h => by cases h⟩, trivial⟩
        · as_aux_lemma =>
            intro vals a W hS hL
            have e35 : a.tmps.getD 35 undef = undef := hL.1
            have e33 : a.tmps.getD 33 undef = .bool false := hL.2.1
            clear hL
            refine .inl ⟨false, e33, ?_⟩
            rw [if_neg (by decide)]
            exact ⟨⟨fun d hd => by injection hd with hd; subst hd; rfl, fun h => by cases h⟩, trivial⟩
        · as_aux_lemma =>
            intro vals a W hS hL
            have e36 : a.tmps.getD 36 undef = undef := hL.1
            have e33 : a.tmps.getD 33 undef = .bool false := hL.2.1
            clear hL
            refine .inl ⟨false, e33, ?_⟩
            rw [if_neg (by decide)]
            exact ⟨⟨fun d hd => by injection hd with hd; subst hd; rfl, fun h => by cases h⟩, trivial⟩
        · as_aux_lemma =>
            intro vals a W hS hL
            have e6 : a.tmps.getD 6 undef = .pointer (some ⟨g6, 0, none⟩) := hL.1
            have e37 : a.tmps.getD 37 undef = undef := hL.2.1
            clear hL
            exact .inr ⟨e37, ⟨fun d hd => by injection hd with hd; subst hd; rfl, fun h => by cases h⟩, trivial⟩
        · as_aux_lemma =>
            intro vals a W hS hL
            have e38 : a.tmps.getD 38 undef = undef := hL.1
            have e37 : a.tmps.getD 37 undef = undef := hL.2.1
            clear hL
            exact .inr ⟨e37, ⟨fun d hd => by injection hd with hd; subst hd; rfl, fun h => by cases h⟩, trivial⟩
        · as_aux_lemma =>
            intro vals a W hS hL
            have e5 : a.tmps.getD 5 undef = .pointer (some ⟨g5, 0, none⟩) := hL.1
            have e37 : a.tmps.getD 37 undef = undef := hL.2.1
            clear hL
            exact .inr ⟨e37, ⟨fun d hd => by injection hd with hd; subst hd; rfl, fun h => by cases h⟩, trivial⟩
        · as_aux_lemma =>
            intro vals a W hS hL
            have e40 : a.tmps.getD 40 undef = undef := hL.1
            have e37 : a.tmps.getD 37 undef = undef := hL.2.1
            clear hL
            exact .inr ⟨e37, ⟨fun d hd => by injection hd with hd; subst hd; rfl, fun h => by cases h⟩, trivial⟩
        · as_aux_lemma =>
            intro vals a W hS hL
            have e39 : a.tmps.getD 39 undef = undef := hL.1
            have e41 : a.tmps.getD 41 undef = undef := hL.2.1
            have e37 : a.tmps.getD 37 undef = undef := hL.2.2.1
            clear hL
            exact .inr ⟨e37, ⟨fun d hd => by injection hd with hd; subst hd; rfl, fun h => by cases h⟩, trivial⟩
        · as_aux_lemma =>
            intro vals a W hS hL
            have e37 : a.tmps.getD 37 undef = undef := hL.1
            have e42 : a.tmps.getD 42 undef = undef := hL.2.1
            have e33 : a.tmps.getD 33 undef = .bool false := hL.2.2.1
            clear hL
            refine .inl ⟨false, e33, ?_⟩
            rw [if_neg (by decide)]
            exact ⟨⟨fun d hd => by injection hd with hd; subst hd; rfl, fun h => by cases h⟩, trivial⟩
        · as_aux_lemma =>
            intro vals a W hS hL
            have e43 : a.tmps.getD 43 undef = undef := hL.1
            have e33 : a.tmps.getD 33 undef = .bool false := hL.2.1
            clear hL
            refine .inl ⟨false, e33, ?_⟩
            rw [if_neg (by decide)]
            exact ⟨⟨fun d hd => by injection hd with hd; subst hd; rfl, fun h => by cases h⟩, trivial⟩
        · as_aux_lemma =>
            intro vals a W hS hL
            have e6 : a.tmps.getD 6 undef = .pointer (some ⟨g6, 0, none⟩) := hL.1
            have e44 : a.tmps.getD 44 undef = undef := hL.2.1
            clear hL
            exact .inr ⟨e44, ⟨fun d hd => by injection hd with hd; subst hd; rfl, fun h => by cases h⟩, trivial⟩
        · as_aux_lemma =>
            intro vals a W hS hL
            have e45 : a.tmps.getD 45 undef = undef := hL.1
            have e44 : a.tmps.getD 44 undef = undef := hL.2.1
            clear hL
            exact .inr ⟨e44, ⟨fun d hd => by injection hd with hd; subst hd; rfl, fun h => by cases h⟩, trivial⟩
        · as_aux_lemma =>
            intro vals a W hS hL
            have e5 : a.tmps.getD 5 undef = .pointer (some ⟨g5, 0, none⟩) := hL.1
            have e44 : a.tmps.getD 44 undef = undef := hL.2.1
            clear hL
            exact .inr ⟨e44, ⟨fun d hd => by injection hd with hd; subst hd; rfl, fun h => by cases h⟩, trivial⟩
        · as_aux_lemma =>
            intro vals a W hS hL
            have e47 : a.tmps.getD 47 undef = undef := hL.1
            have e44 : a.tmps.getD 44 undef = undef := hL.2.1
            clear hL
            exact .inr ⟨e44, ⟨fun d hd => by injection hd with hd; subst hd; rfl, fun h => by cases h⟩, trivial⟩
        · as_aux_lemma =>
            intro vals a W hS hL
            have e46 : a.tmps.getD 46 undef = undef := hL.1
            have e48 : a.tmps.getD 48 undef = undef := hL.2.1
            have e44 : a.tmps.getD 44 undef = undef := hL.2.2.1
            clear hL
            exact .inr ⟨e44, ⟨fun d hd => by injection hd with hd; subst hd; rfl, fun h => by cases h⟩, trivial⟩
        · as_aux_lemma =>
            intro vals a W hS hL
            have e44 : a.tmps.getD 44 undef = undef := hL.1
            have e49 : a.tmps.getD 49 undef = undef := hL.2.1
            have e33 : a.tmps.getD 33 undef = .bool false := hL.2.2.1
            clear hL
            refine .inl ⟨false, e33, ?_⟩
            rw [if_neg (by decide)]
            exact ⟨⟨fun d hd => by injection hd with hd; subst hd; rfl, fun h => by cases h⟩, trivial⟩
        · as_aux_lemma =>
            intro vals a W hS hL
            have e33 : a.tmps.getD 33 undef = .bool false := hL.1
            have e50 : a.tmps.getD 50 undef = undef := hL.2.1
            clear hL
            go_simp
            exact ⟨⟨fun d hd => by injection hd with hd; subst hd; rfl, fun h => by cases h⟩, hS, trivial⟩
      · intro a W' vals hd hsz hT hF hv hP hS
        obtain rfl : vals = [] := List.eq_nil_of_length_eq_zero hv
        have hS2 : Below W7.heap.size W7 W' := hS
        have e5 : a.tmps.getD 5 undef = .pointer (some ⟨g5, 0, none⟩) := hT 5 (by simp)
        have e6 : a.tmps.getD 6 undef = .pointer (some ⟨g6, 0, none⟩) := hT 6 (by simp)
        have e51 : a.tmps.getD 51 undef = .bool false := hT 51 (by simp)
        clear hT hF hP hS
        rw [act_lit 60 a hd hsz]
        simp only [List.range, List.range.loop, List.map, e5, e6, e51]
        clear e5 e6 e51 hsz hd
        generalize a.tmps.getD 0 undef = y0
        generalize a.tmps.getD 1 undef = y1
        generalize a.tmps.getD 2 undef = y2
        generalize a.tmps.getD 3 undef = y3
        generalize a.tmps.getD 4 undef = y4
        generalize a.tmps.getD 7 undef = y7
        generalize a.tmps.getD 8 undef = y8
        generalize a.tmps.getD 9 undef = y9
        generalize a.tmps.getD 10 undef = y10
        generalize a.tmps.getD 11 undef = y11
        generalize a.tmps.getD 12 undef = y12
        generalize a.tmps.getD 13 undef = y13
        generalize a.tmps.getD 14 undef = y14
        generalize a.tmps.getD 15 undef = y15
        generalize a.tmps.getD 16 undef = y16
        generalize a.tmps.getD 17 undef = y17
        generalize a.tmps.getD 18 undef = y18
        generalize a.tmps.getD 19 undef = y19
        generalize a.tmps.getD 20 undef = y20
        generalize a.tmps.getD 21 undef = y21
        generalize a.tmps.getD 22 undef = y22
        generalize a.tmps.getD 23 undef = y23
        generalize a.tmps.getD 24 undef = y24
        generalize a.tmps.getD 25 undef = y25
        generalize a.tmps.getD 26 undef = y26
        generalize a.tmps.getD 27 undef = y27
        generalize a.tmps.getD 28 undef = y28
        generalize a.tmps.getD 29 undef = y29
        generalize a.tmps.getD 30 undef = y30
        generalize a.tmps.getD 31 undef = y31
        generalize a.tmps.getD 32 undef = y32
        generalize a.tmps.getD 33 undef = y33
        generalize a.tmps.getD 34 undef = y34
        generalize a.tmps.getD 35 undef = y35
        generalize a.tmps.getD 36 undef = y36
        generalize a.tmps.getD 37 undef = y37
        generalize a.tmps.getD 38 undef = y38
        generalize a.tmps.getD 39 undef = y39
        generalize a.tmps.getD 40 undef = y40
        generalize a.tmps.getD 41 undef = y41
        generalize a.tmps.getD 42 undef = y42
        generalize a.tmps.getD 43 undef = y43
        generalize a.tmps.getD 44 undef = y44
        generalize a.tmps.getD 45 undef = y45
        generalize a.tmps.getD 46 undef = y46
        generalize a.tmps.getD 47 undef = y47
        generalize a.tmps.getD 48 undef = y48
        generalize a.tmps.getD 49 undef = y49
        generalize a.tmps.getD 50 undef = y50
        generalize a.tmps.getD 52 undef = y52
        generalize a.tmps.getD 53 undef = y53
        generalize a.tmps.getD 54 undef = y54
        generalize a.tmps.getD 55 undef = y55
        generalize a.tmps.getD 56 undef = y56
        generalize a.tmps.getD 57 undef = y57
        generalize a.tmps.getD 58 undef = y58
        generalize a.tmps.getD 59 undef = y59
        have hk5b := hk5.below hS2 hl5
        have hk6b := hk6.below hS2 hl6
        have HB := Lib.hid (HB.out.trans (hS2.mono HB.out.size))
        generalize W' = W8 at *
        repeat' (first | ((with_reducible show Oper.wp _ _ _ _ _ _); apply ld_p; exact rfl; exact rfl; assumption; go_simp) | go_values | go_skip | go_guarded | go_step | go_upon)
        refine (HCk.out _ hS2).mono ?_
        rintro e W9 ⟨rfl, hb9⟩
        have HB := Lib.hid (HB.out.trans (hb9.mono HB.out.size))
        have hk5c := hk5b.below hb9 hk5b.lt
        have hS3 := hS2.trans (hb9.mono hS2.size)
        dsimp only
        by_cases hr : rk = 0
        · subst hr
          repeat' (first | go_values | go_skip | go_guarded | go_step | go_upon)
          exact bodyPost_ret (v := .bool true) (by simp [results, Tryd.results3, go_sem]) rfl ⟨rfl, HB.out⟩
        · have hr' : (rk == 0) = false := by rw [beq_eq_false_iff_ne]; exact hr
          repeat' (first | ((with_reducible show Oper.wp _ _ _ _ _ _); apply ld_p; exact rfl; exact rfl; assumption; go_simp) | ((with_reducible show wpList _ _ _ (List.cons _ _) _ _); apply gld_p; exact rfl; exact rfl; exact rfl; assumption; go_simp) | go_values | go_skip | go_guarded | go_step | go_upon)
          refine (HCx.out _ hS3).mono ?_
          rintro e W10 ⟨rfl, hb10⟩
          have HB := Lib.hid (HB.out.trans (hb10.mono HB.out.size))
          dsimp only
          repeat' (first | go_values | go_skip | go_guarded | go_step | go_upon)
          exact bodyPost_ret (v := .bool true) (by simp [results, Tryd.results3, go_sem, h0]) rfl ⟨rfl, HB.out⟩
end Go.Proofs.YtofbmlfpkcociaaDoor
