/- (*sst.parts).makeRoom by its contract. Conditions: the parts as PI has them, not too long. -/
import Derived.Test.YtllcecnkbndokaaGreatDoorParts
namespace Go.Proofs.YtllcecnkbndokaaGreatDoor
open Go.RowKit Go.Lib

/-- A cut where so many bytes do not fit. -/
def cutN (k : Nat) (S : LS) : LS := if 224 < S.b.length - S.bg + k then ⟨S.b, S.cs ++ [(S.b.length : Int)], S.b.length⟩ else S
theorem cut3_N (S : LS) : cut3 S = cutN 3 S := rfl
theorem below_refl_drewN (w : World) (q : Nat) : Below w.heap.size w (w.drewN q) := below_drewN (Below.refl _ _) q

set_option maxHeartbeats 8000000 in
set_option maxRecDepth 100000 in
theorem makeRoom_any {w : World} {base g : Nat} {S : LS} {ps : List Nat} {dv cv pv : Value} (h : PI w base g S ps dv cv pv) (hB : base ≤ w.heap.size) (k : Nat) (hk : k ≤ 3) (hbg : S.bg ≤ S.b.length) (hn : S.b.length ≤ 100000000) (hc : S.cs.length ≤ 100000000) :
    Calls Tryz.prog 60 #[.pointer (some ⟨g, 0, none⟩), .int .i64 k] w fun e w' => ∃ cv', e = .returned (.bool (decide (224 < S.b.length - S.bg + k))) ∧ PJ w w' base g (cutN k S) ps dv cv pv dv cv' pv := by
  obtain ⟨Ad, cd, rfl, hcd, -, -⟩ := own_form h.od
  obtain ⟨Ac, cc, rfl, hcc, -, -⟩ := own_form h.oc
  have c0 := h.box.cell 0
  have c2 := h.box.cell 2
  have hbg' : (S.bg : Int) ≤ (S.b.length : Int) := by omega
  by_cases hf : 224 < S.b.length - S.bg + k
  · have ec : cutN k S = ⟨S.b, S.cs ++ [(S.b.length : Int)], S.b.length⟩ := if_pos hf
    rw [ec, decide_eq_true hf]
    have hf' : ¬ (S.b.length : Int) - (S.bg : Int) + (k : Int) ≤ 224 := by omega
    have z2 := h.box.frozen 2
    have HP := Lib.hid h
    have hg := h.box.lt
    clear h ec hf
    go_enter Tryz.func60, Tryz.ntmps60
    go_wp2
    go_quiet (fail)
    go_wp2
    have hP := HP.out
    have hk1 := hP.below (below_refl_drewN w nq)
    have hbx := hk1.box.set_ 2 (.int .i64 S.b.length)
    have hK0 : Keep (fun i => i = g) w ((w.drewN nq).setCell ⟨g, 2, none⟩ (.int .i64 S.b.length)) := (Keep.of_below (S := fun i => i = g) (below_refl_drewN w nq) fun i h1 h2 => by omega).setCell (p := ⟨g, 2, none⟩) (fun _ => rfl) _
    generalize hW : (w.drewN nq).setCell ⟨g, 2, none⟩ (.int .i64 S.b.length) = W1 at *
    have hbox0 : Bk W1 g 83 #[.slice Ad S.b.length cd, .slice Ac S.cs.length cc, .int .i64 (S.b.length : Nat), pv] := hbx
    have hrow0 : W1.ownsRow base 3 1 (.slice Ac S.cs.length cc) S.cs.length (S.cs.map iv) := hK0.own hP.oc fun i hi he => by subst he; exact own_ne hP.oc hP.box (by decide) hi
    have hP1 : PJ w W1 base g ⟨S.b, S.cs, S.b.length⟩ ps (.slice Ad S.b.length cd) (.slice Ac S.cs.length cc) pv (.slice Ad S.b.length cd) (.slice Ac S.cs.length cc) pv :=
      ⟨⟨hbox0, hK0.own hP.od fun i hi he => (by subst he; exact own_ne hP.od hP.box (by decide) hi), hrow0, hK0.own hP.op fun i hi he => (by subst he; exact own_ne hP.op hP.box (by decide) hi), hP.ap⟩, hK0.mono fun i _ hi => .inl hi, .refl _ _, .refl _ _, .refl _ _⟩
    have hgl : g < W1.heap.size := hbox0.lt
    have hvl := own_blk hrow0
    have hB1 : base ≤ W1.heap.size := Nat.le_trans hB hK0.size
    have HP1 := Lib.hid hP1
    clear hP hk1 hbx hK0 HP c0 c2 z2 hW hP1 hg hB
    go_wp2_with fail
    refine wp_region_phases (S := (ApS W1 base g 83 3 (fun ur => #[.slice Ad S.b.length cd, ur, .int .i64 (S.b.length : Nat), pv]) S.cs.length 1 (S.cs.map iv) ((S.cs.map iv) ++ [iv (S.b.length : Int)]) (.slice Ac S.cs.length cc))) (E := (fun W W' => Keep (ApT g (.slice Ac S.cs.length cc)) W W')) [4, 10, 13] [(0, Is (.pointer (some ⟨g, 0, none⟩))), (4, Is (.bool false))] [(26, Is (.pointer (some ⟨g, 0, none⟩))), (27, Is (.pointer (some ⟨g, 0, none⟩))), (28, Is (.pointer (some ⟨g, 0, none⟩))), (29, Is (.pointer (some ⟨g, 1, none⟩))), (31, Is (.pointer (some ⟨g, 0, none⟩))), (32, Is (.pointer (some ⟨g, 0, none⟩))), (33, Is (.pointer (some ⟨g, 2, none⟩))), (34, Is (.int .i64 (S.b.length : Nat))), (35, ApX W1.heap.size 3 (iv (S.b.length : Int))), (37, Is (.pointer (some ⟨g, 0, none⟩))), (38, Is (.pointer (some ⟨g, 1, none⟩)))]
      [.op [0] none, .op [0] none, .op [27] none, .op [28] none, .phase 0 [29] [], .op [0] none, .op [31] none, .op [32] none, .op [33] none, .op [34] none, .phase 1 [35] [(0, 30)], .op [26] none, .op [37] none, .phase 2 [38] [(1, 36)]] (by as_aux_lemma => kernel_rfl) ?_ ?_ ?_ ?_ ?_ ⟨stable_is _ _, stable_is _ _, stable_is _ _, stable_is _ _, stable_is _ _, stable_is _ _, stable_is _ _, stable_is _ _, stable_is _ _, stable_is _ _, apx_stable hgl hvl, stable_is _ _, stable_is _ _, trivial⟩ ?_ (ApS.start hbox0 hrow0) ?_ ?_
    · as_aux_lemma => kernel_rfl
    · as_aux_lemma => kernel_rfl
    · as_aux_lemma => kernel_rfl
    · as_aux_lemma => kernel_rfl
    · as_aux_lemma => kernel_rfl
    · exact ⟨rfl, rfl, trivial⟩
    · refine ⟨?_, ?_, ?_, ?_, ?_, ?_, ?_, ?_, ?_, ?_, ?_, ?_, ?_, ?_, trivial⟩
      · as_aux_lemma =>
          intro vals a W hS hL
          have e0 : a.tmps.getD 0 undef = .pointer (some ⟨g, 0, none⟩) := hL.1
          clear hL
          go_simp
          exact ⟨⟨fun d hd => by injection hd with hd; subst hd; rfl, fun h => by cases h⟩, hS, Keep.refl _ _⟩
      · as_aux_lemma =>
          intro vals a W hS hL
          have e0 : a.tmps.getD 0 undef = .pointer (some ⟨g, 0, none⟩) := hL.1
          clear hL
          go_simp
          exact ⟨⟨fun d hd => by injection hd with hd; subst hd; rfl, fun h => by cases h⟩, hS, Keep.refl _ _⟩
      · as_aux_lemma =>
          intro vals a W hS hL
          have e27 : a.tmps.getD 27 undef = .pointer (some ⟨g, 0, none⟩) := hL.1
          clear hL
          go_simp
          exact ⟨⟨fun d hd => by injection hd with hd; subst hd; rfl, fun h => by cases h⟩, hS, Keep.refl _ _⟩
      · as_aux_lemma =>
          intro vals a W hS hL
          have e28 : a.tmps.getD 28 undef = .pointer (some ⟨g, 0, none⟩) := hL.1
          clear hL
          go_simp
          exact ⟨⟨fun d hd => by injection hd with hd; subst hd; rfl, fun h => by cases h⟩, hS, Keep.refl _ _⟩
      · as_aux_lemma =>
          intro a W vals hv hS hL hp
          have e29 : a.tmps.getD 29 undef = .pointer (some ⟨g, 1, none⟩) := hL.1
          clear hL
          match vals, hv, hS with
          | [], _, hS =>
            have fb : W.cell? ⟨g, 1, none⟩ = some (.slice Ac S.cs.length cc) := hS.2.1.cell 1
            go_simp
            exact ⟨⟨rfl, hS⟩, trivial, Keep.refl _ _⟩
      · as_aux_lemma =>
          intro vals a W hS hL
          have e0 : a.tmps.getD 0 undef = .pointer (some ⟨g, 0, none⟩) := hL.1
          clear hL
          go_simp
          exact ⟨⟨fun d hd => by injection hd with hd; subst hd; rfl, fun h => by cases h⟩, hS, Keep.refl _ _⟩
      · as_aux_lemma =>
          intro vals a W hS hL
          have e31 : a.tmps.getD 31 undef = .pointer (some ⟨g, 0, none⟩) := hL.1
          clear hL
          go_simp
          exact ⟨⟨fun d hd => by injection hd with hd; subst hd; rfl, fun h => by cases h⟩, hS, Keep.refl _ _⟩
      · as_aux_lemma =>
          intro vals a W hS hL
          have e32 : a.tmps.getD 32 undef = .pointer (some ⟨g, 0, none⟩) := hL.1
          clear hL
          go_simp
          exact ⟨⟨fun d hd => by injection hd with hd; subst hd; rfl, fun h => by cases h⟩, hS, Keep.refl _ _⟩
      · as_aux_lemma =>
          intro vals a W hS hL
          have e33 : a.tmps.getD 33 undef = .pointer (some ⟨g, 2, none⟩) := hL.1
          clear hL
          obtain ⟨ub, hkb⟩ := ApS.box hS
          have fb : W.cell? ⟨g, 2, none⟩ = some (.int .i64 (S.b.length : Nat)) := hkb.cell 2
          clear hkb
          go_simp
          exact ⟨⟨fun d hd => by injection hd with hd; subst hd; rfl, fun h => by cases h⟩, hS, Keep.refl _ _⟩
      · as_aux_lemma =>
          intro vals a W hS hL
          have e34 : a.tmps.getD 34 undef = .int .i64 (S.b.length : Nat) := hL.1
          clear hL
          have hsz := (ApS.keep hS).size
          rw [Array.getD_eq_getD_getElem?] at e34
          go_simp
          exact ⟨⟨fun d hd => by injection hd with hd; subst hd; exact ⟨_, rfl, hsz, Bk.new _ _ _⟩, fun h => by cases h⟩, ApS.alloc hS _, Keep.alloc (Keep.refl _ _) _⟩
      · as_aux_lemma =>
          intro a W vals hv hS hL hp
          have e35 := hL.1
          clear hL
          obtain ⟨gx, e35, hgx, hkx⟩ := e35
          match vals, hv, hS, hp with
          | [u], _, hS, hp =>
            obtain ⟨rfl, hK, hbx, hrow⟩ := hS
            have e30 := (Option.some.inj (hp.1 (by simp))).symm
            have hsz := hK.size
            refine lands_app intsRow (.tmp 30) (.tmp 35) rfl e30 e35 hrow (bk_rd (k := 1) (n := 1) hkx rfl) (by intro u hu; simp at hu; subst hu; rfl) (by unfold maxLen; omega) (by omega) (Nat.le_trans hB1 hsz) fun v2 w2 o2 g2 => ?_
            have hA := ApS.appended (W0 := W1) (g := g) (T := 83) (C := (fun ur => #[.slice Ad S.b.length cd, ur, .int .i64 (S.b.length : Nat), pv])) (xs := (S.cs.map iv)) ⟨rfl, hK, hbx, hrow⟩ g2 o2 (by decide)
            exact ⟨hA.1, trivial, hA.2⟩
      · as_aux_lemma =>
          intro vals a W hS hL
          have e26 : a.tmps.getD 26 undef = .pointer (some ⟨g, 0, none⟩) := hL.1
          clear hL
          go_simp
          exact ⟨⟨fun d hd => by injection hd with hd; subst hd; rfl, fun h => by cases h⟩, hS, Keep.refl _ _⟩
      · as_aux_lemma =>
          intro vals a W hS hL
          have e37 : a.tmps.getD 37 undef = .pointer (some ⟨g, 0, none⟩) := hL.1
          clear hL
          go_simp
          exact ⟨⟨fun d hd => by injection hd with hd; subst hd; rfl, fun h => by cases h⟩, hS, Keep.refl _ _⟩
      · as_aux_lemma =>
          intro a W vals hv hS hL hp
          have e38 : a.tmps.getD 38 undef = .pointer (some ⟨g, 1, none⟩) := hL.1
          clear hL
          match vals, hv, hS, hp with
          | [u, v1], _, hS, hp =>
            have e36 := (Option.some.inj (hp.1 (by simp))).symm
            obtain ⟨A2, c2, e2, _⟩ := own_form hS.2.2.1
            subst e2
            have kz := hS.2.1
            have fb : W.cell? ⟨g, 1, none⟩ = some (.slice Ac S.cs.length cc) := kz.cell 1
            have zb := kz.frozen 1
            have hF := ApS.stored (x := undef) (k := 1) hS rfl (by decide)
            rw [Array.getD_eq_getD_getElem?] at e36
            clear hS kz
            go_simp
            exact ⟨hF.1, trivial, hF.2⟩
    · intro a W' vals hd hsz hT hF hv hP hS
      obtain ⟨x0, v1, x2, rfl⟩ : ∃ x0 x1 x2, vals = [x0, x1, x2] := by
        match vals, hv with
        | [x, y, z], _ => exact ⟨x, y, z, rfl⟩
      obtain ⟨hK, hbF, hoF, hlF⟩ := ApS.done hS
      have e0 : a.tmps.getD 0 undef = .pointer (some ⟨g, 0, none⟩) := hT 0 (by simp)
      have e4 : a.tmps.getD 4 undef = .bool false := hT 4 (by simp)
      clear hT hF hP hS
      rw [act_lit 39 a hd hsz]
      simp only [List.range, List.range.loop, List.map, e0, e4]
      clear e0 e4 hsz hd hbox0 hrow0
      have hJ := HP1.out.i.cut hK (S.b.length : Int) S.b.length hbF (by simpa using hoF) hlF
      have hfin := HP1.out.trans hJ
      go_wp2
      go_ret
      exact ⟨rfl, _, hfin⟩
  · have ec : cutN k S = S := if_neg hf
    rw [ec, decide_eq_false hf]
    have hf' : (S.b.length : Int) - (S.bg : Int) + (k : Int) ≤ 224 := by omega
    have HP := Lib.hid h
    clear h ec hf
    go_enter Tryz.func60, Tryz.ntmps60
    go_wp2
    go_quiet (fail)
    go_wp2
    go_ret
    exact ⟨_, rfl, HP.out.refl.below (below_refl_drewN w nq)⟩
end Go.Proofs.YtllcecnkbndokaaGreatDoor
