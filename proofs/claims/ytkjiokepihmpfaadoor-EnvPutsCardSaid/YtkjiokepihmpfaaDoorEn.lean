/- expr's stack: enter, by its contract. Condition: the stack reads as rows of formulas, the formula's Kids too. -/
import Derived.Test.YtkjiokepihmpfaaDoorApp
import Derived.Test.YtkjiokepihmpfaaDoorNx
set_option linter.unusedVariables false
set_option linter.unusedSimpArgs false
namespace Go.Proofs.YtkjiokepihmpfaaDoor
open Go.RowKit Go.Lib

set_option maxRecDepth 20000 in
set_option maxHeartbeats 1000000 in
theorem enter_any {w : World} {B base g : Nat} {v : Value} {K : List (List Tr)} (h : Stk w B base g v K) (hB : B ≤ base) (hg : B ≤ g) (hbw : base ≤ w.heap.size) {p : Pay} {ks : List Tr} {A : Option Addr} {c : Nat} (hc : ks.length ≤ c) (hr : RowF treeF w (· < B) A ks.length ks) (hlen : K.length ≤ 1000000) :
    Calls Tryd.prog 73 #[.pointer (some ⟨g, 0, none⟩), .agg (ec p (.slice A ks.length c)).toArray] w fun e W => e = .returned (.tuple #[]) ∧ Keep (StT g v) w W ∧ ∃ v', Lies w v v' ∧ Stk W B base g v' (K ++ [ks]) := by
  obtain ⟨xs, ho, hh⟩ := h.row
  have hne := h.ne
  have hgl0 := h.len
  have hbx := h.box
  clear h
  generalize hn : K.length = n at *
  obtain ⟨w1, hw1⟩ : ∃ w1, w1 = w.alloc (.cells (ec p (.slice A ks.length c)).toArray 83) := ⟨_, rfl⟩
  obtain ⟨b, hb⟩ : ∃ b, b = w.heap.size := ⟨_, rfl⟩
  have hbel : Below b w w1 := by rw [hw1, hb]; exact bel0 _ _
  have hkb : Bk w1 b 83 (ec p (.slice A ks.length c)).toArray := by rw [hw1, hb]; exact Bk.new _ _ _
  have hbox0 : Bk w1 g 130 #[v] := hbx.below hbel (by omega)
  have hrow0 : w1.ownsRow base 26 1 v n xs := (Keep.of_below (S := fun i => b ≤ i) hbel fun i _ h => h).own ho fun i hi hh => by have := (ho.lt i hi).2; omega
  have hvl0 := own_blk ho
  have hvb := own_base ho
  have hxl : xs.length = n := by rw [ho.1]; omega
  have hbn : ¬ ApT g v b := by
    rintro (e | e)
    · omega
    · have := hvl0 _ e; omega
  go_enter Tryd.func73, Tryd.ntmps73
  repeat' (first | go_values | go_skip | go_guarded | go_step | go_upon)
  rw [← hb, ← hw1]
  have HB := Lib.hid (And.intro hb hbel)
  clear hw1 hbel ho hbx
  have hB1 : base ≤ w1.heap.size := by have := HB.out.2.size; omega
  clear hb
  have hgl : g < w1.heap.size := hbox0.lt
  have hvl := own_blk hrow0
  refine wp_region_phases (S := (ApS w1 base g 130 26 (fun ur => #[ur]) n 1 xs (xs ++ [.slice A ks.length c]) v)) (E := (fun W W' => Keep (ApT g v) W W')) [3, 7, 9] [(0, Is (.pointer (some ⟨g, 0, none⟩))), (1, Is (.agg (ec p (.slice A ks.length c)).toArray)), (3, Is (.pointer (some ⟨b, 0, none⟩)))] [(4, Is (.pointer (some ⟨g, 0, none⟩))), (5, Is (.pointer (some ⟨g, 0, none⟩))), (6, Is (.pointer (some ⟨g, 0, none⟩))), (8, Is (.pointer (some ⟨b, 17, none⟩))), (9, Is (.slice A ks.length c)), (10, ApX w1.heap.size 26 (.slice A ks.length c)), (12, Is (.pointer (some ⟨g, 0, none⟩)))]
    [.op [0] none, .op [0] none, .op [5] none, .phase 0 [6] [], .op [3] none, .op [8] none, .op [9] none, .phase 1 [10] [(0, 7)], .op [4] none, .phase 2 [12] [(1, 11)]] (by as_aux_lemma => kernel_rfl) ?_ ?_ ?_ ?_ ?_ ⟨stable_is _ _, stable_is _ _, stable_is _ _, stable_is _ _, stable_is _ _, stable_is _ _, stable_is _ _, stable_is _ _, apx_stable hgl hvl, stable_is _ _, trivial⟩ ?_ (ApS.start hbox0 hrow0) ?_ ?_
  · as_aux_lemma => kernel_rfl
  · as_aux_lemma => kernel_rfl
  · as_aux_lemma => kernel_rfl
  · as_aux_lemma => kernel_rfl
  · as_aux_lemma => kernel_rfl
  · exact ⟨rfl, rfl, rfl, trivial⟩
  · refine ⟨?_, ?_, ?_, ?_, ?_, ?_, ?_, ?_, ?_, ?_, trivial⟩
    · as_aux_lemma =>
        intro vals a W hS hL
        have e0 : a.tmps.getD 0 undef = .pointer (some ⟨g, 0, none⟩) := hL.1
        clear hL
        go_simp
        exact ⟨⟨fun d hd => by injection hd with hd; subst hd; rfl, fun h => by cases h⟩, hS, Keep.refl _ _⟩
    · as_aux_lemma =>
        intro vals a W hS hL
        have e0 : a.tmps.getD 0 undef = .pointer (some ⟨g, 0, none⟩) := hL.1
        clear hL
        go_simp
        exact ⟨⟨fun d hd => by injection hd with hd; subst hd; rfl, fun h => by cases h⟩, hS, Keep.refl _ _⟩
    · as_aux_lemma =>
        intro vals a W hS hL
        have e5 : a.tmps.getD 5 undef = .pointer (some ⟨g, 0, none⟩) := hL.1
        clear hL
        go_simp
        exact ⟨⟨fun d hd => by injection hd with hd; subst hd; rfl, fun h => by cases h⟩, hS, Keep.refl _ _⟩
    · as_aux_lemma =>
        intro a W vals hv hS hL hp
        have e6 : a.tmps.getD 6 undef = .pointer (some ⟨g, 0, none⟩) := hL.1
        clear hL
        match vals, hv, hS with
        | [], _, hS =>
          have fb : W.cell? ⟨g, 0, none⟩ = some v := hS.2.1.cell 0
          go_simp
          exact ⟨⟨rfl, hS⟩, trivial, Keep.refl _ _⟩
    · as_aux_lemma =>
        intro vals a W hS hL
        have e3 : a.tmps.getD 3 undef = .pointer (some ⟨b, 0, none⟩) := hL.1
        clear hL
        go_simp
        exact ⟨⟨fun d hd => by injection hd with hd; subst hd; rfl, fun h => by cases h⟩, hS, Keep.refl _ _⟩
    · as_aux_lemma =>
        intro vals a W hS hL
        have e8 : a.tmps.getD 8 undef = .pointer (some ⟨b, 17, none⟩) := hL.1
        clear hL
        have hkb2 := (ApS.keep hS).bk hkb hbn
        have fb : W.cell? ⟨b, 17, none⟩ = some (.slice A ks.length c) := hkb2.cell 17
        clear hkb2
        go_simp
        exact ⟨⟨fun d hd => by injection hd with hd; subst hd; rfl, fun h => by cases h⟩, hS, Keep.refl _ _⟩
    · as_aux_lemma =>
        intro vals a W hS hL
        have e9 : a.tmps.getD 9 undef = .slice A ks.length c := hL.1
        clear hL
        have hsz := (ApS.keep hS).size
        rw [Array.getD_eq_getD_getElem?] at e9
        go_simp
        exact ⟨⟨fun d hd => by injection hd with hd; subst hd; exact ⟨_, rfl, hsz, Bk.new _ _ _⟩, fun h => by cases h⟩, ApS.alloc hS _, Keep.alloc (Keep.refl _ _) _⟩
    · as_aux_lemma =>
        intro a W vals hv hS hL hp
        have e10 := hL.1
        clear hL
        obtain ⟨gx, e10, hgx, hkx⟩ := e10
        match vals, hv, hS, hp with
        | [u], _, hS, hp =>
          obtain ⟨rfl, hK, hbx, hrow⟩ := hS
          have e7 := (Option.some.inj (hp.1 (by simp))).symm
          have hsz := hK.size
          refine lands_app hdrRow (.tmp 7) (.tmp 10) rfl e7 e10 hrow (bk_rd (k := 1) (n := 1) hkx rfl) (by intro u hu; simp at hu; subst hu; rfl) (by unfold maxLen; omega) (by omega) (Nat.le_trans hB1 hsz) fun v2_ w2_ o2_ g2_ => ?_
          have hA := ApS.appended (W0 := w1) (g := g) (T := 130) (C := (fun ur => #[ur])) (xs := xs) ⟨rfl, hK, hbx, hrow⟩ g2_ o2_ (by decide)
          exact ⟨hA.1, trivial, hA.2⟩
    · as_aux_lemma =>
        intro vals a W hS hL
        have e4 : a.tmps.getD 4 undef = .pointer (some ⟨g, 0, none⟩) := hL.1
        clear hL
        go_simp
        exact ⟨⟨fun d hd => by injection hd with hd; subst hd; rfl, fun h => by cases h⟩, hS, Keep.refl _ _⟩
    · as_aux_lemma =>
        intro a W vals hv hS hL hp
        have e12 : a.tmps.getD 12 undef = .pointer (some ⟨g, 0, none⟩) := hL.1
        clear hL
        match vals, hv, hS, hp with
        | [u, v1], _, hS, hp =>
          have e11 := (Option.some.inj (hp.1 (by simp))).symm
          obtain ⟨A2, c2, e2, _⟩ := own_form hS.2.2.1
          subst e2
          have kz := hS.2.1
          have fb : W.cell? ⟨g, 0, none⟩ = some v := kz.cell 0
          have zb := kz.frozen 0
          have hF := ApS.stored (x := undef) (k := 0) hS rfl (by decide)
          rw [Array.getD_eq_getD_getElem?] at e11
          clear hS kz
          go_simp
          exact ⟨hF.1, trivial, hF.2⟩
  · intro a W' vals hd hsz hT hF hv hP hS
    obtain ⟨x0, v1, x2, rfl⟩ : ∃ x0 x1 x2, vals = [x0, x1, x2] := by
      match vals, hv with
      | [x, y, z], _ => exact ⟨x, y, z, rfl⟩
    obtain ⟨hK, hbF, hoF, hlF⟩ := ApS.done hS
    have e0 : a.tmps.getD 0 undef = .pointer (some ⟨g, 0, none⟩) := hT 0 (by simp)
    have e1 : a.tmps.getD 1 undef = .agg (ec p (.slice A ks.length c)).toArray := hT 1 (by simp)
    have e3 : a.tmps.getD 3 undef = .pointer (some ⟨b, 0, none⟩) := hT 3 (by simp)
    clear hT hF hP hS
    rw [act_lit 13 a hd hsz]
    simp only [List.range, List.range.loop, List.map, e0, e1, e3]
    clear e0 e1 e3 hsz hd hbox0 hrow0
    clear hgl hvl
    obtain ⟨hb, hbl⟩ := HB.out
    have hKK : Keep (StT g v) w W' := (Keep.of_below (S := StT g v) hbl fun i hi h => by omega).trans hK fun i _ h => h
    have hbB : Below B w W' := hKK.below (B := B) (by omega) fun i hi h => by
      rcases h with h | h
      · omega
      · have := hvb i h; omega
    refine ⟨rfl, .tuple #[], by simp [results, Tryd.results73], rfl, hKK, v1, ?_, ⟨hbF, xs ++ [.slice A ks.length c], ?_, ?_⟩⟩
    · rcases hlF with h | ⟨i, h, hi⟩
      · exact .inl h
      · exact .inr ⟨i, h, by have := hbl.size; omega⟩
    · rw [List.length_append, hn]; exact hoF
    · exact (hh.below hbB (Nat.le_refl _)).snoc (by rw [hxl, hn]) hc (hr.below hbB (Nat.le_refl _))
end Go.Proofs.YtkjiokepihmpfaaDoor
