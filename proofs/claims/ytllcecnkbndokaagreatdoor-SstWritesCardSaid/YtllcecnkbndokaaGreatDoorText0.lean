/- (*sst.parts).putText of a narrow text by its contract. Conditions: the parts as PI has them, not too long; the text is one that str takes; utf8.ValidString keeps its contract. -/
import Derived.Test.YtllcecnkbndokaaGreatDoorUnitsOf
namespace Go.Proofs.YtllcecnkbndokaaGreatDoor
open Go.RowKit Go.Lib

set_option maxHeartbeats 16000000 in
set_option maxRecDepth 100000 in
theorem putText_any0 {w : World} {base g : Nat} {S : LS} {ps : List Nat} {dv cv pv : Value} (HV : Val w) (h : PI w base g S ps dv cv pv) (hB : base ≤ w.heap.size) (s : ByteArray) (hs : s.size ≤ 100000) (h0 : uE s.data.toList = 0) (hfl : flT s.data.toList = 0) (hI : Inv S) (hn : S.b.length ≤ 10000000) (hcs : S.cs.length ≤ S.b.length) (hpl : ps.length ≤ 1000000) :
    Calls Tryz.prog 42 #[.pointer (some ⟨g, 0, none⟩), .string s] w fun e w' => e = .returned (.tuple #[]) ∧ ∃ dv' cv' pv', PJ w w' base g (putT S s.data.toList) (ps ++ [S.b.length]) dv cv pv dv' cv' pv' := by
  have hdl0 := own_blk h.od
  have hpt := put_any (c := 0) (b := []) HV (Rd.nil w 0 1 none) (Nat.zero_le _) (by omega) s hs
  rw [h0, putL_ok h0, List.nil_append, pb_units, hfl] at hpt
  have hun : (unis s.data.toList).length ≤ 1000 := (uE_valid h0).2
  have hhd : headT s.data.toList = b2 (unN s.data.toList : Int) ++ [UInt8.ofNat 0] := by unfold headT; rw [hfl]
  have hhl := headT_len s.data.toList
  have HPT := Lib.hid hpt
  obtain ⟨F, hF⟩ : ∃ F, putT S s.data.toList = F := ⟨_, rfl⟩
  have HF : Hid ((unis s.data.toList).foldl (putU 0) (begT S s.data.toList) = F) := Lib.hid (by rw [← hF, ← hfl]; rfl)
  rw [hF]
  clear hF hpt
  go_enter Tryz.func42, Tryz.ntmps42
  go_wp2_with fail
  refine HPT.out.mono ?_
  rintro e w1 ⟨v1, n1, rfl, o1, b1⟩
  have hl1 : 3 ≤ n1 := by have := o1.1; rw [List.length_map, List.length_append, headT_len] at this; omega
  obtain ⟨gb, cp, rfl, hlow, hbk, hR⟩ := RdG.own o1 (by omega)
  have hap1 : dv.ownBlock ≠ some gb := fun hi => by have := hdl0 gb hi; omega
  have hc2 : w1.cell? ⟨gb, 2, none⟩ = some (.int .u8 0) := by
    rcases hR.at_ with h1 | ⟨o, h1, -, hc⟩
    · omega
    · injection h1 with h1
      injection h1 with _ h1
      subst h1
      have := hc 2 (UInt8.ofNat 0) (by rw [hhd]; rfl)
      rw [Nat.zero_add] at this
      exact this
  have hM1 : LM w w1 base g gb ps dv cv pv S dv cv pv (some ⟨gb, 0, none⟩) n1 cp (headT s.data.toList ++ (unis s.data.toList).flatMap (ub 0)) := ⟨h.refl.below b1, hR, ⟨_, hbk⟩, hap1⟩
  have hB1 : base ≤ w1.heap.size := Nat.le_trans hB b1.size
  have h2n : 2 < n1 := by omega
  have h2n' : (2 : Int) < (n1 : Int) := by omega
  have hcp : n1 ≤ cp := hR.cap
  clear o1 HPT h hR hbk hap1 b1 HV hdl0 hhd
  go_wp2_with fail
  refine (makeRoom_any hM1.j.i hB1 3 (by omega) hI.bg (by omega) (by omega)).mono ?_
  rintro e w2 ⟨cv2, rfl, hJ2⟩
  rw [← cut3_N] at hJ2
  have hcb := cut3_b S
  have hM2 := hM1.room hJ2
  have hB2 : base ≤ w2.heap.size := Nat.le_trans hB1 hJ2.keep.size
  clear hJ2 hM1 hc2 hB1
  have hSb : begT S s.data.toList = ⟨(cut3 S).b ++ headT s.data.toList, (cut3 S).cs, (cut3 S).bg⟩ := rfl
  have hI3 : Inv (begT S s.data.toList) := hI.begT _
  have hcs3 : (cut3 S).cs.length ≤ S.cs.length + 1 := by unfold cut3; split <;> simp
  rw [hSb] at hI3 HF
  rw [← hcb] at hn hcs
  have hPS : ps ++ [S.b.length] = ps ++ [(cut3 S).b.length] := by rw [hcb]
  generalize cut3 S = S3 at *
  have HPS := Lib.hid hPS
  clear hcb hI hSb hPS
  obtain ⟨Ad, cd, rfl, hcd, -, -⟩ := own_form hM2.j.i.od
  obtain ⟨Ap, cpp, rfl, -, -, -⟩ := own_form hM2.j.i.op
  have hbox0 := hM2.j.i.box
  have hrow0 := hM2.j.i.op
  have hgl : g < w2.heap.size := hbox0.lt
  have hvl := own_blk hrow0
  go_wp2_with fail
  refine wp_region_phases (S := (ApS w2 base g 83 3 (fun ur => #[.slice Ad S3.b.length cd, cv2, .int .i64 (S3.bg : Nat), ur]) ps.length 1 (ps.map nv) ((ps.map nv) ++ [nv S3.b.length]) (.slice Ap ps.length cpp))) (E := (fun W W' => Keep (ApT g (.slice Ap ps.length cpp)) W W')) [4, 11, 14] [(0, Is (.pointer (some ⟨g, 0, none⟩))), (1, Is (.string s)), (4, Is (.slice (some ⟨gb, 0, none⟩) n1 cp)), (6, Is (.int .u8 0)), (7, Is (.int .i64 1))] [(23, Is (.pointer (some ⟨g, 0, none⟩))), (24, Is (.pointer (some ⟨g, 0, none⟩))), (25, Is (.pointer (some ⟨g, 0, none⟩))), (26, Is (.pointer (some ⟨g, 3, none⟩))), (28, Is (.pointer (some ⟨g, 0, none⟩))), (29, Is (.pointer (some ⟨g, 0, none⟩))), (30, Is (.pointer (some ⟨g, 0, none⟩))), (31, Is (.slice Ad S3.b.length cd)), (32, Is (.int .i64 (S3.b.length : Nat))), (33, ApX w2.heap.size 3 (nv S3.b.length)), (35, Is (.pointer (some ⟨g, 0, none⟩))), (36, Is (.pointer (some ⟨g, 3, none⟩)))]
    [.op [0] none, .op [0] none, .op [24] none, .op [25] none, .phase 0 [26] [], .op [0] none, .op [28] none, .op [29] none, .op [30] none, .op [31] none, .op [32] none, .phase 1 [33] [(0, 27)], .op [23] none, .op [35] none, .phase 2 [36] [(1, 34)]] (by as_aux_lemma => kernel_rfl) ?_ ?_ ?_ ?_ ?_ ⟨stable_is _ _, stable_is _ _, stable_is _ _, stable_is _ _, stable_is _ _, stable_is _ _, stable_is _ _, stable_is _ _, stable_is _ _, stable_is _ _, stable_is _ _, stable_is _ _, stable_is _ _, stable_is _ _, apx_stable hgl hvl, stable_is _ _, stable_is _ _, trivial⟩ ?_ (ApS.start hbox0 hrow0) ?_ ?_
  · as_aux_lemma => kernel_rfl
  · as_aux_lemma => kernel_rfl
  · as_aux_lemma => kernel_rfl
  · as_aux_lemma => kernel_rfl
  · as_aux_lemma => kernel_rfl
  · exact ⟨rfl, rfl, rfl, rfl, rfl, trivial⟩
  · refine ⟨?_, ?_, ?_, ?_, ?_, ?_, ?_, ?_, ?_, ?_, ?_, ?_, ?_, ?_, ?_, trivial⟩
    · as_aux_lemma =>
        intro vals a W hS hL
        have e0 : a.tmps.getD 0 undef = .pointer (some ⟨g, 0, none⟩) := hL.1
        clear hL
        go_simp
        exact ⟨⟨fun d hd => by injection hd with hd; subst hd; rfl, fun h => by cases h⟩, hS, Keep.refl _ _⟩
    · as_aux_lemma =>
        intro vals a W hS hL
        have e0 : a.tmps.getD 0 undef = .pointer (some ⟨g, 0, none⟩) := hL.1
        clear hL
        go_simp
        exact ⟨⟨fun d hd => by injection hd with hd; subst hd; rfl, fun h => by cases h⟩, hS, Keep.refl _ _⟩
    · as_aux_lemma =>
        intro vals a W hS hL
        have e24 : a.tmps.getD 24 undef = .pointer (some ⟨g, 0, none⟩) := hL.1
        clear hL
        go_simp
        exact ⟨⟨fun d hd => by injection hd with hd; subst hd; rfl, fun h => by cases h⟩, hS, Keep.refl _ _⟩
    · as_aux_lemma =>
        intro vals a W hS hL
        have e25 : a.tmps.getD 25 undef = .pointer (some ⟨g, 0, none⟩) := hL.1
        clear hL
        go_simp
        exact ⟨⟨fun d hd => by injection hd with hd; subst hd; rfl, fun h => by cases h⟩, hS, Keep.refl _ _⟩
    · as_aux_lemma =>
        intro a W vals hv hS hL hp
        have e26 : a.tmps.getD 26 undef = .pointer (some ⟨g, 3, none⟩) := hL.1
        clear hL
        match vals, hv, hS with
        | [], _, hS =>
          have fb : W.cell? ⟨g, 3, none⟩ = some (.slice Ap ps.length cpp) := hS.2.1.cell 3
          go_simp
          exact ⟨⟨rfl, hS⟩, trivial, Keep.refl _ _⟩
    · as_aux_lemma =>
        intro vals a W hS hL
        have e0 : a.tmps.getD 0 undef = .pointer (some ⟨g, 0, none⟩) := hL.1
        clear hL
        go_simp
        exact ⟨⟨fun d hd => by injection hd with hd; subst hd; rfl, fun h => by cases h⟩, hS, Keep.refl _ _⟩
    · as_aux_lemma =>
        intro vals a W hS hL
        have e28 : a.tmps.getD 28 undef = .pointer (some ⟨g, 0, none⟩) := hL.1
        clear hL
        go_simp
        exact ⟨⟨fun d hd => by injection hd with hd; subst hd; rfl, fun h => by cases h⟩, hS, Keep.refl _ _⟩
    · as_aux_lemma =>
        intro vals a W hS hL
        have e29 : a.tmps.getD 29 undef = .pointer (some ⟨g, 0, none⟩) := hL.1
        clear hL
        go_simp
        exact ⟨⟨fun d hd => by injection hd with hd; subst hd; rfl, fun h => by cases h⟩, hS, Keep.refl _ _⟩
    · as_aux_lemma =>
        intro vals a W hS hL
        have e30 : a.tmps.getD 30 undef = .pointer (some ⟨g, 0, none⟩) := hL.1
        clear hL
        obtain ⟨ub, hkb⟩ := ApS.box hS
        have fb : W.cell? ⟨g, 0, none⟩ = some (.slice Ad S3.b.length cd) := hkb.cell 0
        clear hkb
        go_simp
        exact ⟨⟨fun d hd => by injection hd with hd; subst hd; rfl, fun h => by cases h⟩, hS, Keep.refl _ _⟩
    · as_aux_lemma =>
        intro vals a W hS hL
        have e31 : a.tmps.getD 31 undef = .slice Ad S3.b.length cd := hL.1
        clear hL
        go_simp
        exact ⟨⟨fun d hd => by injection hd with hd; subst hd; rfl, fun h => by cases h⟩, hS, Keep.refl _ _⟩
    · as_aux_lemma =>
        intro vals a W hS hL
        have e32 : a.tmps.getD 32 undef = .int .i64 (S3.b.length : Nat) := hL.1
        clear hL
        have hsz := (ApS.keep hS).size
        rw [Array.getD_eq_getD_getElem?] at e32
        go_simp
        exact ⟨⟨fun d hd => by injection hd with hd; subst hd; exact ⟨_, rfl, hsz, Bk.new _ _ _⟩, fun h => by cases h⟩, ApS.alloc hS _, Keep.alloc (Keep.refl _ _) _⟩
    · as_aux_lemma =>
        intro a W vals hv hS hL hp
        have e33 := hL.1
        clear hL
        obtain ⟨gx, e33, hgx, hkx⟩ := e33
        match vals, hv, hS, hp with
        | [u], _, hS, hp =>
          obtain ⟨rfl, hK, hbx, hrow⟩ := hS
          have e27 := (Option.some.inj (hp.1 (by simp))).symm
          have hsz := hK.size
          refine lands_app intsRow (.tmp 27) (.tmp 33) rfl e27 e33 hrow (bk_rd (k := 1) (n := 1) hkx rfl) (by intro u hu; simp at hu; subst hu; rfl) (by unfold maxLen; omega) (by omega) (Nat.le_trans hB2 hsz) fun v2_ w2_ o2_ g2_ => ?_
          have hA := ApS.appended (W0 := w2) (g := g) (T := 83) (C := (fun ur => #[.slice Ad S3.b.length cd, cv2, .int .i64 (S3.bg : Nat), ur])) (xs := (ps.map nv)) ⟨rfl, hK, hbx, hrow⟩ g2_ o2_ (by decide)
          exact ⟨hA.1, trivial, hA.2⟩
    · as_aux_lemma =>
        intro vals a W hS hL
        have e23 : a.tmps.getD 23 undef = .pointer (some ⟨g, 0, none⟩) := hL.1
        clear hL
        go_simp
        exact ⟨⟨fun d hd => by injection hd with hd; subst hd; rfl, fun h => by cases h⟩, hS, Keep.refl _ _⟩
    · as_aux_lemma =>
        intro vals a W hS hL
        have e35 : a.tmps.getD 35 undef = .pointer (some ⟨g, 0, none⟩) := hL.1
        clear hL
        go_simp
        exact ⟨⟨fun d hd => by injection hd with hd; subst hd; rfl, fun h => by cases h⟩, hS, Keep.refl _ _⟩
    · as_aux_lemma =>
        intro a W vals hv hS hL hp
        have e36 : a.tmps.getD 36 undef = .pointer (some ⟨g, 3, none⟩) := hL.1
        clear hL
        match vals, hv, hS, hp with
        | [u, v1], _, hS, hp =>
          have e34 := (Option.some.inj (hp.1 (by simp))).symm
          obtain ⟨A2, c2, e2, _⟩ := own_form hS.2.2.1
          subst e2
          have kz := hS.2.1
          have fb : W.cell? ⟨g, 3, none⟩ = some (.slice Ap ps.length cpp) := kz.cell 3
          have zb := kz.frozen 3
          have hF := ApS.stored (x := undef) (k := 3) hS rfl (by decide)
          rw [Array.getD_eq_getD_getElem?] at e34
          clear hS kz
          go_simp
          exact ⟨hF.1, trivial, hF.2⟩
  · intro a W' vals hd hsz hT hF hv hP hS
    obtain ⟨x0, vp, x2, rfl⟩ : ∃ x0 x1 x2, vals = [x0, x1, x2] := by
      match vals, hv with
      | [x, y, z], _ => exact ⟨x, y, z, rfl⟩
    obtain ⟨hK, hbF, hoF, hlF⟩ := ApS.done hS
    have e0 : a.tmps.getD 0 undef = .pointer (some ⟨g, 0, none⟩) := hT 0 (by simp)
    have e1 : a.tmps.getD 1 undef = .string s := hT 1 (by simp)
    have e4 : a.tmps.getD 4 undef = .slice (some ⟨gb, 0, none⟩) n1 cp := hT 4 (by simp)
    have e6 : a.tmps.getD 6 undef = .int .u8 0 := hT 6 (by simp)
    have e7 : a.tmps.getD 7 undef = .int .i64 1 := hT 7 (by simp)
    clear hT hF hP hS
    rw [act_lit 86 a hd hsz]
    simp only [List.range, List.range.loop, List.map, e0, e1, e4, e6, e7]
    clear e0 e1 e4 e6 e7 hsz hd hbox0 hrow0
    have hM3 := hM2.place hK S3.b.length hbF (by simpa using hoF) hlF
    clear hM2 hK hbF hoF hlF hgl hvl
    have hB3 : base ≤ W'.heap.size := Nat.le_trans hB hM3.j.keep.size
    generalize W' = w3 at *
    have hbox0 := hM3.j.i.box
    have hrow0 := hM3.j.i.od
    have hgl : g < w3.heap.size := hbox0.lt
    have hvl := own_blk hrow0
    have HS : Hid (∀ W, Keep (ApT g (.slice Ad S3.b.length cd)) w3 W → Rd W W.heap.size 1 (some ⟨gb, 0, none⟩) 3 ((headT s.data.toList).map bv)) := Lib.hid fun W hK => by
      have hng : ¬ ApT g (.slice Ad S3.b.length cd) gb := by
        rintro (rfl | ht)
        · exact hM3.nogb (.inl rfl)
        · exact hM3.nogb (.inr (.inl ht))
      have := ((hM3.r.front (k := 3) (by omega)).keepT hK hng).rd
      rw [List.take_append_of_le_length (by omega), List.take_of_length_le (by omega)] at this
      exact this
    go_wp2_with fail
    refine wp_region_phases (S := (ApS w3 base g 83 5 (fun ur => #[ur, cv2, .int .i64 (S3.bg : Nat), vp]) S3.b.length 3 (S3.b.map bv) ((S3.b.map bv) ++ ((headT s.data.toList).map bv)) (.slice Ad S3.b.length cd))) (E := (fun W W' => Keep (ApT g (.slice Ad S3.b.length cd)) W W')) [4, 7, 10] [(0, Is (.pointer (some ⟨g, 0, none⟩))), (1, Is (.string s)), (4, Is (.slice (some ⟨gb, 0, none⟩) n1 cp)), (6, Is (.int .u8 0)), (7, Is (.int .i64 1))] [(37, Is (.pointer (some ⟨g, 0, none⟩))), (38, Is (.pointer (some ⟨g, 0, none⟩))), (39, Is (.pointer (some ⟨g, 0, none⟩))), (40, Is (.pointer (some ⟨g, 0, none⟩))), (42, Is (.slice (some ⟨gb, 0, none⟩) n1 cp)), (43, Is (.slice (some ⟨gb, 0, none⟩) 3 cp)), (45, Is (.pointer (some ⟨g, 0, none⟩))), (46, Is (.pointer (some ⟨g, 0, none⟩)))]
      [.op [0] none, .op [0] none, .op [38] none, .op [39] none, .phase 0 [40] [], .op [4] none, .op [42] none, .phase 1 [43] [(0, 41)], .op [37] none, .op [45] none, .phase 2 [46] [(1, 44)]] (by as_aux_lemma => kernel_rfl) ?_ ?_ ?_ ?_ ?_ ⟨stable_is _ _, stable_is _ _, stable_is _ _, stable_is _ _, stable_is _ _, stable_is _ _, stable_is _ _, stable_is _ _, stable_is _ _, stable_is _ _, stable_is _ _, stable_is _ _, stable_is _ _, trivial⟩ ?_ (ApS.start hbox0 hrow0) ?_ ?_
    · as_aux_lemma => kernel_rfl
    · as_aux_lemma => kernel_rfl
    · as_aux_lemma => kernel_rfl
    · as_aux_lemma => kernel_rfl
    · as_aux_lemma => kernel_rfl
    · exact ⟨rfl, rfl, rfl, rfl, rfl, trivial⟩
    · refine ⟨?_, ?_, ?_, ?_, ?_, ?_, ?_, ?_, ?_, ?_, ?_, trivial⟩
      · as_aux_lemma =>
          intro vals a W hS hL
          have e0 : a.tmps.getD 0 undef = .pointer (some ⟨g, 0, none⟩) := hL.1
          clear hL
          go_simp
          exact ⟨⟨fun d hd => by injection hd with hd; subst hd; rfl, fun h => by cases h⟩, hS, Keep.refl _ _⟩
      · as_aux_lemma =>
          intro vals a W hS hL
          have e0 : a.tmps.getD 0 undef = .pointer (some ⟨g, 0, none⟩) := hL.1
          clear hL
          go_simp
          exact ⟨⟨fun d hd => by injection hd with hd; subst hd; rfl, fun h => by cases h⟩, hS, Keep.refl _ _⟩
      · as_aux_lemma =>
          intro vals a W hS hL
          have e38 : a.tmps.getD 38 undef = .pointer (some ⟨g, 0, none⟩) := hL.1
          clear hL
          go_simp
          exact ⟨⟨fun d hd => by injection hd with hd; subst hd; rfl, fun h => by cases h⟩, hS, Keep.refl _ _⟩
      · as_aux_lemma =>
          intro vals a W hS hL
          have e39 : a.tmps.getD 39 undef = .pointer (some ⟨g, 0, none⟩) := hL.1
          clear hL
          go_simp
          exact ⟨⟨fun d hd => by injection hd with hd; subst hd; rfl, fun h => by cases h⟩, hS, Keep.refl _ _⟩
      · as_aux_lemma =>
          intro a W vals hv hS hL hp
          have e40 : a.tmps.getD 40 undef = .pointer (some ⟨g, 0, none⟩) := hL.1
          clear hL
          match vals, hv, hS with
          | [], _, hS =>
            have fb : W.cell? ⟨g, 0, none⟩ = some (.slice Ad S3.b.length cd) := hS.2.1.cell 0
            go_simp
            exact ⟨⟨rfl, hS⟩, trivial, Keep.refl _ _⟩
      · as_aux_lemma =>
          intro vals a W hS hL
          have e4 : a.tmps.getD 4 undef = .slice (some ⟨gb, 0, none⟩) n1 cp := hL.1
          clear hL
          go_simp
          exact ⟨⟨fun d hd => by injection hd with hd; subst hd; rfl, fun h => by cases h⟩, hS, Keep.refl _ _⟩
      · as_aux_lemma =>
          intro vals a W hS hL
          have e42 : a.tmps.getD 42 undef = .slice (some ⟨gb, 0, none⟩) n1 cp := hL.1
          clear hL
          refine lands_hi (.tmp 42) (.const (.int .i64 3)) rfl e42 rfl (run_hi W gb 0 n1 cp 3 (by omega)) ?_
          exact ⟨⟨fun d hd => by injection hd with hd; subst hd; rfl, fun h => by cases h⟩, hS, Keep.refl _ _⟩
      · as_aux_lemma =>
          intro a W vals hv hS hL hp
          have e43 : a.tmps.getD 43 undef = .slice (some ⟨gb, 0, none⟩) 3 cp := hL.1
          clear hL
          match vals, hv, hS, hp with
          | [u], _, hS, hp =>
            obtain ⟨rfl, hK, hbx, hrow⟩ := hS
            have e41 := (Option.some.inj (hp.1 (by simp))).symm
            have hsz := hK.size
            refine lands_app bytesRow (.tmp 41) (.tmp 43) rfl e41 e43 hrow (HS.out W hK) (bv_one _) (by unfold maxLen; omega) (by omega) (Nat.le_trans hB3 hsz) fun v2_ w2_ o2_ g2_ => ?_
            have hA := ApS.appended (W0 := w3) (g := g) (T := 83) (C := (fun ur => #[ur, cv2, .int .i64 (S3.bg : Nat), vp])) (xs := (S3.b.map bv)) ⟨rfl, hK, hbx, hrow⟩ g2_ o2_ (by decide)
            exact ⟨hA.1, trivial, hA.2⟩
      · as_aux_lemma =>
          intro vals a W hS hL
          have e37 : a.tmps.getD 37 undef = .pointer (some ⟨g, 0, none⟩) := hL.1
          clear hL
          go_simp
          exact ⟨⟨fun d hd => by injection hd with hd; subst hd; rfl, fun h => by cases h⟩, hS, Keep.refl _ _⟩
      · as_aux_lemma =>
          intro vals a W hS hL
          have e45 : a.tmps.getD 45 undef = .pointer (some ⟨g, 0, none⟩) := hL.1
          clear hL
          go_simp
          exact ⟨⟨fun d hd => by injection hd with hd; subst hd; rfl, fun h => by cases h⟩, hS, Keep.refl _ _⟩
      · as_aux_lemma =>
          intro a W vals hv hS hL hp
          have e46 : a.tmps.getD 46 undef = .pointer (some ⟨g, 0, none⟩) := hL.1
          clear hL
          match vals, hv, hS, hp with
          | [u, v1], _, hS, hp =>
            have e44 := (Option.some.inj (hp.1 (by simp))).symm
            obtain ⟨A2, c2, e2, _⟩ := own_form hS.2.2.1
            subst e2
            have kz := hS.2.1
            have fb : W.cell? ⟨g, 0, none⟩ = some (.slice Ad S3.b.length cd) := kz.cell 0
            have zb := kz.frozen 0
            have hF := ApS.stored (x := undef) (k := 0) hS rfl (by decide)
            rw [Array.getD_eq_getD_getElem?] at e44
            clear hS kz
            go_simp
            exact ⟨hF.1, trivial, hF.2⟩
    · intro a W' vals hd hsz hT hF hv hP hS
      obtain ⟨x0, vd, x2, rfl⟩ : ∃ x0 x1 x2, vals = [x0, x1, x2] := by
        match vals, hv with
        | [x, y, z], _ => exact ⟨x, y, z, rfl⟩
      obtain ⟨hK, hbF, hoF, hlF⟩ := ApS.done hS
      have e0 : a.tmps.getD 0 undef = .pointer (some ⟨g, 0, none⟩) := hT 0 (by simp)
      have e1 : a.tmps.getD 1 undef = .string s := hT 1 (by simp)
      have e4 : a.tmps.getD 4 undef = .slice (some ⟨gb, 0, none⟩) n1 cp := hT 4 (by simp)
      have e6 : a.tmps.getD 6 undef = .int .u8 0 := hT 6 (by simp)
      have e7 : a.tmps.getD 7 undef = .int .i64 1 := hT 7 (by simp)
      clear hT hF hP hS
      rw [act_lit 86 a hd hsz]
      simp only [List.range, List.range.loop, List.map, e0, e1, e4, e6, e7]
      clear e0 e1 e4 e6 e7 hsz hd hbox0 hrow0
      generalize a.tmps.getD 2 undef = y2
      generalize a.tmps.getD 3 undef = y3
      generalize a.tmps.getD 5 undef = y5
      generalize a.tmps.getD 8 undef = y8
      generalize a.tmps.getD 9 undef = y9
      generalize a.tmps.getD 10 undef = y10
      generalize a.tmps.getD 11 undef = y11
      generalize a.tmps.getD 12 undef = y12
      generalize a.tmps.getD 13 undef = y13
      generalize a.tmps.getD 14 undef = y14
      generalize a.tmps.getD 15 undef = y15
      generalize a.tmps.getD 16 undef = y16
      generalize a.tmps.getD 17 undef = y17
      generalize a.tmps.getD 18 undef = y18
      generalize a.tmps.getD 19 undef = y19
      generalize a.tmps.getD 20 undef = y20
      generalize a.tmps.getD 21 undef = y21
      generalize a.tmps.getD 22 undef = y22
      generalize a.tmps.getD 23 undef = y23
      generalize a.tmps.getD 24 undef = y24
      generalize a.tmps.getD 25 undef = y25
      generalize a.tmps.getD 26 undef = y26
      generalize a.tmps.getD 27 undef = y27
      generalize a.tmps.getD 28 undef = y28
      generalize a.tmps.getD 29 undef = y29
      generalize a.tmps.getD 30 undef = y30
      generalize a.tmps.getD 31 undef = y31
      generalize a.tmps.getD 32 undef = y32
      generalize a.tmps.getD 33 undef = y33
      generalize a.tmps.getD 34 undef = y34
      generalize a.tmps.getD 35 undef = y35
      generalize a.tmps.getD 36 undef = y36
      generalize a.tmps.getD 37 undef = y37
      generalize a.tmps.getD 38 undef = y38
      generalize a.tmps.getD 39 undef = y39
      generalize a.tmps.getD 40 undef = y40
      generalize a.tmps.getD 41 undef = y41
      generalize a.tmps.getD 42 undef = y42
      generalize a.tmps.getD 43 undef = y43
      generalize a.tmps.getD 44 undef = y44
      generalize a.tmps.getD 45 undef = y45
      generalize a.tmps.getD 46 undef = y46
      generalize a.tmps.getD 47 undef = y47
      generalize a.tmps.getD 48 undef = y48
      generalize a.tmps.getD 49 undef = y49
      generalize a.tmps.getD 50 undef = y50
      generalize a.tmps.getD 51 undef = y51
      generalize a.tmps.getD 52 undef = y52
      generalize a.tmps.getD 53 undef = y53
      generalize a.tmps.getD 54 undef = y54
      generalize a.tmps.getD 55 undef = y55
      generalize a.tmps.getD 56 undef = y56
      generalize a.tmps.getD 57 undef = y57
      generalize a.tmps.getD 58 undef = y58
      generalize a.tmps.getD 59 undef = y59
      generalize a.tmps.getD 60 undef = y60
      generalize a.tmps.getD 61 undef = y61
      generalize a.tmps.getD 62 undef = y62
      generalize a.tmps.getD 63 undef = y63
      generalize a.tmps.getD 64 undef = y64
      generalize a.tmps.getD 65 undef = y65
      generalize a.tmps.getD 66 undef = y66
      generalize a.tmps.getD 67 undef = y67
      generalize a.tmps.getD 68 undef = y68
      generalize a.tmps.getD 69 undef = y69
      generalize a.tmps.getD 70 undef = y70
      generalize a.tmps.getD 71 undef = y71
      generalize a.tmps.getD 72 undef = y72
      generalize a.tmps.getD 73 undef = y73
      generalize a.tmps.getD 74 undef = y74
      generalize a.tmps.getD 75 undef = y75
      generalize a.tmps.getD 76 undef = y76
      generalize a.tmps.getD 77 undef = y77
      generalize a.tmps.getD 78 undef = y78
      generalize a.tmps.getD 79 undef = y79
      generalize a.tmps.getD 80 undef = y80
      generalize a.tmps.getD 81 undef = y81
      generalize a.tmps.getD 82 undef = y82
      generalize a.tmps.getD 83 undef = y83
      generalize a.tmps.getD 84 undef = y84
      generalize a.tmps.getD 85 undef = y85
      have hM4 := hM3.data (t := headT s.data.toList) hK hbF (by rw [List.length_append, List.map_append, hhl]; exact hoF) hlF
      clear hM3 hK hbF hoF hlF hgl hvl HS hB3
      have hR4 := hM4.r.rest (k := 3) (by omega)
      rw [List.drop_append_of_le_length (by omega), List.drop_eq_nil_of_le (by omega), List.nil_append] at hR4
      have hL4 : LI w W' base g gb 0 F (ps ++ [S3.b.length]) (.slice Ad S3.b.length cd) cv (.slice Ap ps.length cpp) (unis s.data.toList) ⟨S3.b ++ headT s.data.toList, S3.cs, S3.bg⟩ vd cv2 vp (adv (some ⟨gb, 0, none⟩) cp 3) (n1 - 3) (cp - 3) :=
        ⟨hM4.j, hR4, hM4.b, HF.out, hI3, by show S3.cs.length ≤ (S3.b ++ headT s.data.toList).length; rw [List.length_append]; omega, by show (S3.b ++ headT s.data.toList).length + _ ≤ _; rw [List.length_append]; omega, hM4.ap, hlow⟩
      generalize W' = w4 at *
      have hgi : w.heap.size ≤ w4.heap.size := hM4.j.keep.size
      clear hM4 hR4 HF hI3 hcs hcs3 hn hun h2n h2n'
      generalize S3.b ++ headT s.data.toList = SB at *
      generalize ps ++ [S3.b.length] = PS at *
      have hL5 : LI w (w4.iter s 0) base g gb 0 F PS (.slice Ad S3.b.length cd) cv (.slice Ap ps.length cpp) (unis (s.data.toList.drop 0)) ⟨SB, S3.cs, S3.bg⟩ vd cv2 vp (adv (some ⟨gb, 0, none⟩) cp 3) (n1 - 3) (cp - 3) := by
        rw [List.drop_zero]
        exact hL4.below ((Below.refl _ _).alloc (Nat.le_refl _) _)
      clear hL4
      go_wp2_with (refine wpList_lo rfl (.tmp 47) (.const (.int .i64 3)) rfl rfl rfl (run_lo _ (some ⟨gb, 0, none⟩) n1 cp 3 (by omega)) ?_)
      go_loopw [4] (fun bvv wr => ∃ (q : Nat) (S' : LS) (d c p : Value) (A' : Option Addr) (n' c' : Nat), bvv = .slice A' n' c' ∧ LI w wr base g gb 0 F PS (.slice Ad S3.b.length cd) cv (.slice Ap ps.length cpp) (unis (s.data.toList.drop q)) S' d c p A' n' c' ∧ wr.heap[w4.heap.size]? = some (.stringIter s q) ∧ q ≤ s.size) (fun _ wr => s.size - wr.iterPos w4.heap.size)
      case atStart => exact ⟨0, _, _, _, _, _, _, _, rfl, hL5, heap_alloc_new w4 _, by omega⟩
      case round =>
        clear hL5
        obtain ⟨q, S', d, c, p, A', n', c', rfl, hL, hi, hq⟩ := hrel
        by_cases hp : q < s.size
        · have hnx : ∀ ty, (Instr.next (.pointer (some ⟨w4.heap.size, 0, none⟩)) true ty).run Tryz.prog wr = _ := fun ty => run_next_any_at wr w4.heap.size s q ty hi hp
          have hwd := Lib.decode_width_pos s q hp
          have hle : q + (Utf8.decode s q).2 ≤ s.size := decode_le s q hp
          have hst : unis (s.data.toList.drop q) = uni ((Utf8.decode s q).1 : Int) ++ unis (s.data.toList.drop (q + (Utf8.decode s q).2)) := by unfold unis; rw [rns_at s q hp, List.flatMap_cons]
          have hL2 := hL.iter hi (q + (Utf8.decode s q).2) hgi
          have hi2 := iterAt_heap wr w4.heap.size s q (q + (Utf8.decode s q).2) hi
          have hpos := iterPos_at hi
          rw [hst] at hL2
          clear hL hi hst
          generalize hr : ((Utf8.decode s q).1 : Int) = r at *
          generalize hk : (Utf8.decode s q).2 = k at *
          generalize hW : wr.iterAt w4.heap.size s (q + k) = W at *
          have hu2 := uni_two r
          have HUO := Lib.hid (unitsOf_any (w := W) r)
          obtain ⟨RL, hRL⟩ : ∃ RL, uni r = RL := ⟨_, rfl⟩
          rw [hRL] at hL2 hu2 HUO
          clear hRL
          go_wp2_with fail
          refine HUO.out.mono ?_
          rintro e w5 ⟨rfl, rfl⟩
          clear HUO
          go_wp2
          go_loopw [4, 56] (fun bvv jv wr => ∃ (j : Nat) (S' : LS) (d c p : Value) (A' : Option Addr) (n' c' : Nat), bvv = .slice A' n' c' ∧ jv = .int .i64 j ∧ j ≤ RL.length ∧ LI w wr base g gb 0 F PS (.slice Ad S3.b.length cd) cv (.slice Ap ps.length cpp) (RL.drop j ++ unis (s.data.toList.drop (q + k))) S' d c p A' n' c' ∧ wr.heap[w4.heap.size]? = some (.stringIter s (q + k))) (fun _ jv _ => RL.length - (Go.RowKit.intOf jv).toNat)
          case atStart => exact ⟨0, _, _, _, _, _, _, _, rfl, rfl, Nat.zero_le _, (by rw [List.drop_zero]; exact hL2), hi2⟩
          case round =>
            clear hL2 hi2 hnx
            rename_i wr0 _ _ wr
            obtain ⟨j, S', d, c, p, A', n', c', rfl, rfl, hj, hL, hi⟩ := hrel
            have hBr : base ≤ wr.heap.size := Nat.le_trans hB hL.j.keep.size
            by_cases hjl : j < RL.length
            · have hjl' : (j : Int) < (RL.length : Int) := by omega
              obtain ⟨u, us, hus, hus2⟩ : ∃ u us, RL.drop j ++ unis (s.data.toList.drop (q + k)) = u :: us ∧ us = RL.drop (j + 1) ++ unis (s.data.toList.drop (q + k)) := ⟨RL[j], _, by rw [List.drop_eq_getElem_cons hjl]; rfl, rfl⟩
              rw [hus] at hL
              clear hus
              obtain ⟨hn1, ⟨o, rfl⟩, -, -⟩ := hL.r.unit (by omega)
              have hcap := hL.r.cap
              have hbd := hL.bd
              have hmr := makeRoom_any hL.j.i hBr 1 (by omega) hL.inv.bg (by omega) (by have := hL.cs; omega)
              have hng := hL.j.i.iter hi
              have hgl4 : w4.heap.size < wr.heap.size := (Array.getElem?_eq_some_iff.1 hi).1
              by_cases hcut : 224 < S'.b.length - S'.bg + 1
              · have hpu := putU_cut (k := 1) (w := 0) rfl u hcut
                rw [decide_eq_true hcut, show cutN 1 S' = ⟨S'.b, S'.cs ++ [(S'.b.length : Int)], S'.b.length⟩ from if_pos hcut] at hmr
                have hrm := fun W' c2 (hJ : PJ wr W' base g (cutN 1 S') PS d c p d c2 p) => hL.room hJ
                rw [show cutN 1 S' = ⟨S'.b, S'.cs ++ [(S'.b.length : Int)], S'.b.length⟩ from if_pos hcut] at hrm
                clear hcut
                go_wp2_with fail
                refine hmr.mono ?_
                rintro e w6 ⟨c6, rfl, hJ⟩
                have hM := hrm _ _ hJ
                have hi6 : w6.heap[w4.heap.size]? = some (.stringIter s (q + k)) := (hJ.keep.block _ hgl4 hng).trans hi
                have hng6 := hM.j.i.iter hi6
                have hB6 : base ≤ w6.heap.size := Nat.le_trans hB hM.j.keep.size
                have ho6 := hM.j.i.od
                obtain ⟨A6, k6, rfl, -, -, -⟩ := own_form ho6
                have f6 := hM.j.i.box.cell 0
                clear hJ hmr hrm hi
                go_wp2_with (at_builtin; refine wpList_app bytesRow rfl (.tmp 65) (.tmp 67) rfl rfl rfl (ho6.alloc _) (Rd.fresh _ _ 1 1 _ rfl) ?_ ?_ ?_ ?_ ?_)
                · intro x hx; simp at hx; subst hx; rfl
                · show S'.b.length + 1 ≤ maxLen; unfold maxLen; omega
                · show (S'.b.length + 1) * 1 ≤ _; omega
                · simp; omega
                intro v7 w7 o7 g7 b7
                obtain ⟨hb7, hM7⟩ := hM.byte (UInt8.ofNat 0) g7 o7
                obtain ⟨A7, k7, rfl, -, -, -⟩ := own_form o7
                have f7 := hb7.cell 0
                have z7 := hb7.frozen 0
                have hi7 : (w7.setCell ⟨g, 0, none⟩ (.slice A7 (S'.b.length + 1) k7)).heap[w4.heap.size]? = some (.stringIter s (q + k)) := (Below.heap_setCell w7 ⟨g, 0, none⟩ _ w4.heap.size (fun e => hng6 (.inl e))).trans (iter_grew ho6 hi6 g7)
                clear o7 g7 b7 hb7
                go_wp2_with fail
                generalize hW8 : w7.setCell ⟨g, 0, none⟩ (.slice A7 (S'.b.length + 1) k7) = w8 at *
                clear hW8 f7 z7 f6
                generalize (Value.slice A7 (S'.b.length + 1) k7) = d7 at *
                obtain ⟨S7, hS7⟩ : ∃ S7 : LS, S7 = ⟨S'.b ++ [UInt8.ofNat 0], S'.cs ++ [(S'.b.length : Int)], S'.b.length⟩ := ⟨_, rfl⟩
                have hpu7 : putU 0 S' u = ⟨S7.b ++ ub 0 u, S7.cs, S7.bg⟩ := by rw [hpu, hS7]
                have hM8 : LM w w8 base g gb PS (.slice Ad S3.b.length cd) cv (.slice Ap ps.length cpp) S7 d7 c6 p (some ⟨gb, o, none⟩) n' c' ((u :: us).flatMap (ub 0)) := by rw [hS7]; exact hM7
                have hb7 : S7.b.length ≤ 10003004 := by rw [hS7]; show (S'.b ++ [_]).length ≤ _; rw [List.length_append, List.length_singleton]; rw [List.length_cons] at hbd; omega
                clear hS7 hpu hM7 hM ho6
                obtain ⟨A8, k8, rfl, -, -, -⟩ := own_form hM8.j.i.od
                have hbox0 := hM8.j.i.box
                have hrow0 := hM8.j.i.od
                have hB8 : base ≤ w8.heap.size := Nat.le_trans hB hM8.j.keep.size
                have hgl : g < w8.heap.size := hbox0.lt
                have hvl := own_blk hrow0
                have hng8 := hM8.nogb
                have HS : Hid (∀ W, Keep (ApT g (.slice A8 S7.b.length k8)) w8 W → Rd W W.heap.size 1 (some ⟨gb, o, none⟩) 1 ((ub 0 u).map bv)) := Lib.hid fun W hK => by
                  have hng : ¬ ApT g (.slice A8 S7.b.length k8) gb := by
                    rintro (rfl | ht)
                    · exact hng8 (.inl rfl)
                    · exact hng8 (.inr (.inl ht))
                  exact ((hM8.r.unit (by omega)).2.2.1.keepT hK hng).rd
                go_wp2_with fail
                refine wp_region_phases (S := (ApS w8 base g 83 5 (fun ur => #[ur, c6, .int .i64 (S7.bg : Nat), p]) S7.b.length 1 (S7.b.map bv) ((S7.b.map bv) ++ ((ub 0 u).map bv)) (.slice A8 S7.b.length k8))) (E := (fun W W' => Keep (ApT g (.slice A8 S7.b.length k8)) W W')) [4, 8, 11] [(0, Is (.pointer (some ⟨g, 0, none⟩))), (1, Is (.string s)), (2, Is (y2)), (3, Is (y3)), (4, Is (.slice (some ⟨gb, o, none⟩) n' c')), (5, Is (y5)), (6, Is (.int .u8 0)), (7, Is (.int .i64 1)), (8, Is (y8)), (9, Is (.int .i32 r)), (10, Is (y10)), (11, Is (y11)), (12, Is (y12)), (13, Is (y13)), (14, Is (y14)), (15, Is (y15)), (16, Is (y16)), (17, Is (y17)), (18, Is (y18)), (19, Is (y19)), (20, Is (y20)), (21, Is (y21)), (22, Is (y22)), (23, Is (y23)), (24, Is (y24)), (25, Is (y25)), (26, Is (y26)), (27, Is (y27)), (28, Is (y28)), (29, Is (y29)), (30, Is (y30)), (31, Is (y31)), (32, Is (y32)), (33, Is (y33)), (34, Is (y34)), (35, Is (y35)), (36, Is (y36)), (37, Is (y37)), (38, Is (y38)), (39, Is (y39)), (40, Is (y40)), (41, Is (y41)), (42, Is (y42)), (43, Is (y43)), (44, Is (y44)), (45, Is (y45)), (46, Is (y46)), (47, Is (.slice (some ⟨gb, 0, none⟩) n1 cp)), (48, Is (.slice (adv (some ⟨gb, 0, none⟩) cp 3) (n1 - 3) (cp - 3))), (49, Is (.string s)), (50, Is (.pointer (some ⟨w4.heap.size, 0, none⟩))), (51, Is (.tuple #[.bool true, .int .i64 (q : Nat), .int .i32 r])), (52, Is (.bool true)), (53, Is (.int .i32 r)), (54, Is (.int .i32 r)), (55, Is (.int .i64 (RL.length : Nat))), (56, Is (.int .i64 (j : Nat)))] [(71, Is (.pointer (some ⟨g, 0, none⟩))), (72, Is (.pointer (some ⟨g, 0, none⟩))), (73, Is (.pointer (some ⟨g, 0, none⟩))), (74, Is (.pointer (some ⟨g, 0, none⟩))), (76, Is (.slice (some ⟨gb, o, none⟩) n' c')), (77, Is (.int .i64 1)), (78, Is (.slice (some ⟨gb, o, none⟩) 1 c')), (80, Is (.pointer (some ⟨g, 0, none⟩))), (81, Is (.pointer (some ⟨g, 0, none⟩)))]
                  [.op [0] none, .op [0] none, .op [72] none, .op [73] none, .phase 0 [74] [], .op [4] none, .op [7] none, .op [76, 77] none, .phase 1 [78] [(0, 75)], .op [71] none, .op [80] none, .phase 2 [81] [(1, 79)]] (by as_aux_lemma => kernel_rfl) ?_ ?_ ?_ ?_ ?_ ⟨stable_is _ _, stable_is _ _, stable_is _ _, stable_is _ _, stable_is _ _, stable_is _ _, stable_is _ _, stable_is _ _, stable_is _ _, stable_is _ _, stable_is _ _, stable_is _ _, stable_is _ _, stable_is _ _, stable_is _ _, stable_is _ _, stable_is _ _, stable_is _ _, stable_is _ _, stable_is _ _, stable_is _ _, stable_is _ _, stable_is _ _, stable_is _ _, stable_is _ _, stable_is _ _, stable_is _ _, stable_is _ _, stable_is _ _, stable_is _ _, stable_is _ _, stable_is _ _, stable_is _ _, stable_is _ _, stable_is _ _, stable_is _ _, stable_is _ _, stable_is _ _, stable_is _ _, stable_is _ _, stable_is _ _, stable_is _ _, stable_is _ _, stable_is _ _, stable_is _ _, stable_is _ _, stable_is _ _, stable_is _ _, stable_is _ _, stable_is _ _, stable_is _ _, stable_is _ _, stable_is _ _, stable_is _ _, stable_is _ _, stable_is _ _, stable_is _ _, stable_is _ _, stable_is _ _, stable_is _ _, stable_is _ _, stable_is _ _, stable_is _ _, stable_is _ _, stable_is _ _, stable_is _ _, trivial⟩ ?_ (ApS.start hbox0 hrow0) ?_ ?_
                · as_aux_lemma => kernel_rfl
                · as_aux_lemma => kernel_rfl
                · as_aux_lemma => kernel_rfl
                · as_aux_lemma => kernel_rfl
                · as_aux_lemma => kernel_rfl
                · exact ⟨rfl, rfl, rfl, rfl, rfl, rfl, rfl, rfl, rfl, rfl, rfl, rfl, rfl, rfl, rfl, rfl, rfl, rfl, rfl, rfl, rfl, rfl, rfl, rfl, rfl, rfl, rfl, rfl, rfl, rfl, rfl, rfl, rfl, rfl, rfl, rfl, rfl, rfl, rfl, rfl, rfl, rfl, rfl, rfl, rfl, rfl, rfl, rfl, rfl, rfl, rfl, rfl, rfl, rfl, rfl, rfl, rfl, trivial⟩
                · refine ⟨?_, ?_, ?_, ?_, ?_, ?_, ?_, ?_, ?_, ?_, ?_, ?_, trivial⟩
                  · as_aux_lemma =>
                      intro vals a W hS hL
                      have e0 : a.tmps.getD 0 undef = .pointer (some ⟨g, 0, none⟩) := hL.1
                      clear hL
                      go_simp
                      exact ⟨⟨fun d hd => by injection hd with hd; subst hd; rfl, fun h => by cases h⟩, hS, Keep.refl _ _⟩
                  · as_aux_lemma =>
                      intro vals a W hS hL
                      have e0 : a.tmps.getD 0 undef = .pointer (some ⟨g, 0, none⟩) := hL.1
                      clear hL
                      go_simp
                      exact ⟨⟨fun d hd => by injection hd with hd; subst hd; rfl, fun h => by cases h⟩, hS, Keep.refl _ _⟩
                  · as_aux_lemma =>
                      intro vals a W hS hL
                      have e72 : a.tmps.getD 72 undef = .pointer (some ⟨g, 0, none⟩) := hL.1
                      clear hL
                      go_simp
                      exact ⟨⟨fun d hd => by injection hd with hd; subst hd; rfl, fun h => by cases h⟩, hS, Keep.refl _ _⟩
                  · as_aux_lemma =>
                      intro vals a W hS hL
                      have e73 : a.tmps.getD 73 undef = .pointer (some ⟨g, 0, none⟩) := hL.1
                      clear hL
                      go_simp
                      exact ⟨⟨fun d hd => by injection hd with hd; subst hd; rfl, fun h => by cases h⟩, hS, Keep.refl _ _⟩
                  · as_aux_lemma =>
                      intro a W vals hv hS hL hp
                      have e74 : a.tmps.getD 74 undef = .pointer (some ⟨g, 0, none⟩) := hL.1
                      clear hL
                      match vals, hv, hS with
                      | [], _, hS =>
                        have fb : W.cell? ⟨g, 0, none⟩ = some (.slice A8 S7.b.length k8) := hS.2.1.cell 0
                        go_simp
                        exact ⟨⟨rfl, hS⟩, trivial, Keep.refl _ _⟩
                  · as_aux_lemma =>
                      intro vals a W hS hL
                      have e4 : a.tmps.getD 4 undef = .slice (some ⟨gb, o, none⟩) n' c' := hL.1
                      clear hL
                      go_simp
                      exact ⟨⟨fun d hd => by injection hd with hd; subst hd; rfl, fun h => by cases h⟩, hS, Keep.refl _ _⟩
                  · as_aux_lemma =>
                      intro vals a W hS hL
                      have e7 : a.tmps.getD 7 undef = .int .i64 1 := hL.1
                      clear hL
                      go_simp
                      exact ⟨⟨fun d hd => by injection hd with hd; subst hd; rfl, fun h => by cases h⟩, hS, Keep.refl _ _⟩
                  · as_aux_lemma =>
                      intro vals a W hS hL
                      have e76 : a.tmps.getD 76 undef = .slice (some ⟨gb, o, none⟩) n' c' := hL.1
                      have e77 : a.tmps.getD 77 undef = .int .i64 1 := hL.2.1
                      clear hL
                      refine lands_hi (.tmp 76) (.tmp 77) rfl e76 e77 (run_hi W gb o n' c' 1 (by omega)) ?_
                      exact ⟨⟨fun d hd => by injection hd with hd; subst hd; rfl, fun h => by cases h⟩, hS, Keep.refl _ _⟩
                  · as_aux_lemma =>
                      intro a W vals hv hS hL hp
                      have e78 : a.tmps.getD 78 undef = .slice (some ⟨gb, o, none⟩) 1 c' := hL.1
                      clear hL
                      match vals, hv, hS, hp with
                      | [u], _, hS, hp =>
                        obtain ⟨rfl, hK, hbx, hrow⟩ := hS
                        have e75 := (Option.some.inj (hp.1 (by simp))).symm
                        have hsz := hK.size
                        refine lands_app bytesRow (.tmp 75) (.tmp 78) rfl e75 e78 hrow (HS.out W hK) (bv_one _) (by unfold maxLen; omega) (by omega) (Nat.le_trans hB8 hsz) fun v2_ w2_ o2_ g2_ => ?_
                        have hA := ApS.appended (W0 := w8) (g := g) (T := 83) (C := (fun ur => #[ur, c6, .int .i64 (S7.bg : Nat), p])) (xs := (S7.b.map bv)) ⟨rfl, hK, hbx, hrow⟩ g2_ o2_ (by decide)
                        exact ⟨hA.1, trivial, hA.2⟩
                  · as_aux_lemma =>
                      intro vals a W hS hL
                      have e71 : a.tmps.getD 71 undef = .pointer (some ⟨g, 0, none⟩) := hL.1
                      clear hL
                      go_simp
                      exact ⟨⟨fun d hd => by injection hd with hd; subst hd; rfl, fun h => by cases h⟩, hS, Keep.refl _ _⟩
                  · as_aux_lemma =>
                      intro vals a W hS hL
                      have e80 : a.tmps.getD 80 undef = .pointer (some ⟨g, 0, none⟩) := hL.1
                      clear hL
                      go_simp
                      exact ⟨⟨fun d hd => by injection hd with hd; subst hd; rfl, fun h => by cases h⟩, hS, Keep.refl _ _⟩
                  · as_aux_lemma =>
                      intro a W vals hv hS hL hp
                      have e81 : a.tmps.getD 81 undef = .pointer (some ⟨g, 0, none⟩) := hL.1
                      clear hL
                      match vals, hv, hS, hp with
                      | [u, v1], _, hS, hp =>
                        have e79 := (Option.some.inj (hp.1 (by simp))).symm
                        obtain ⟨A2, c2, e2, _⟩ := own_form hS.2.2.1
                        subst e2
                        have kz := hS.2.1
                        have fb : W.cell? ⟨g, 0, none⟩ = some (.slice A8 S7.b.length k8) := kz.cell 0
                        have zb := kz.frozen 0
                        have hF := ApS.stored (x := undef) (k := 0) hS rfl (by decide)
                        rw [Array.getD_eq_getD_getElem?] at e79
                        clear hS kz
                        go_simp
                        exact ⟨hF.1, trivial, hF.2⟩
                · intro a W' vals hd hsz hT hF hv hP hS
                  obtain ⟨x0, v9, x2, rfl⟩ : ∃ x0 x1 x2, vals = [x0, x1, x2] := by
                    match vals, hv with
                    | [x, y, z], _ => exact ⟨x, y, z, rfl⟩
                  obtain ⟨hK, hbF, hoF, hlF⟩ := ApS.done hS
                  have e0 : a.tmps.getD 0 undef = .pointer (some ⟨g, 0, none⟩) := hT 0 (by simp)
                  have e1 : a.tmps.getD 1 undef = .string s := hT 1 (by simp)
                  have e2 : a.tmps.getD 2 undef = y2 := hT 2 (by simp)
                  have e3 : a.tmps.getD 3 undef = y3 := hT 3 (by simp)
                  have e4 : a.tmps.getD 4 undef = .slice (some ⟨gb, o, none⟩) n' c' := hT 4 (by simp)
                  have e5 : a.tmps.getD 5 undef = y5 := hT 5 (by simp)
                  have e6 : a.tmps.getD 6 undef = .int .u8 0 := hT 6 (by simp)
                  have e7 : a.tmps.getD 7 undef = .int .i64 1 := hT 7 (by simp)
                  have e8 : a.tmps.getD 8 undef = y8 := hT 8 (by simp)
                  have e9 : a.tmps.getD 9 undef = .int .i32 r := hT 9 (by simp)
                  have e10 : a.tmps.getD 10 undef = y10 := hT 10 (by simp)
                  have e11 : a.tmps.getD 11 undef = y11 := hT 11 (by simp)
                  have e12 : a.tmps.getD 12 undef = y12 := hT 12 (by simp)
                  have e13 : a.tmps.getD 13 undef = y13 := hT 13 (by simp)
                  have e14 : a.tmps.getD 14 undef = y14 := hT 14 (by simp)
                  have e15 : a.tmps.getD 15 undef = y15 := hT 15 (by simp)
                  have e16 : a.tmps.getD 16 undef = y16 := hT 16 (by simp)
                  have e17 : a.tmps.getD 17 undef = y17 := hT 17 (by simp)
                  have e18 : a.tmps.getD 18 undef = y18 := hT 18 (by simp)
                  have e19 : a.tmps.getD 19 undef = y19 := hT 19 (by simp)
                  have e20 : a.tmps.getD 20 undef = y20 := hT 20 (by simp)
                  have e21 : a.tmps.getD 21 undef = y21 := hT 21 (by simp)
                  have e22 : a.tmps.getD 22 undef = y22 := hT 22 (by simp)
                  have e23 : a.tmps.getD 23 undef = y23 := hT 23 (by simp)
                  have e24 : a.tmps.getD 24 undef = y24 := hT 24 (by simp)
                  have e25 : a.tmps.getD 25 undef = y25 := hT 25 (by simp)
                  have e26 : a.tmps.getD 26 undef = y26 := hT 26 (by simp)
                  have e27 : a.tmps.getD 27 undef = y27 := hT 27 (by simp)
                  have e28 : a.tmps.getD 28 undef = y28 := hT 28 (by simp)
                  have e29 : a.tmps.getD 29 undef = y29 := hT 29 (by simp)
                  have e30 : a.tmps.getD 30 undef = y30 := hT 30 (by simp)
                  have e31 : a.tmps.getD 31 undef = y31 := hT 31 (by simp)
                  have e32 : a.tmps.getD 32 undef = y32 := hT 32 (by simp)
                  have e33 : a.tmps.getD 33 undef = y33 := hT 33 (by simp)
                  have e34 : a.tmps.getD 34 undef = y34 := hT 34 (by simp)
                  have e35 : a.tmps.getD 35 undef = y35 := hT 35 (by simp)
                  have e36 : a.tmps.getD 36 undef = y36 := hT 36 (by simp)
                  have e37 : a.tmps.getD 37 undef = y37 := hT 37 (by simp)
                  have e38 : a.tmps.getD 38 undef = y38 := hT 38 (by simp)
                  have e39 : a.tmps.getD 39 undef = y39 := hT 39 (by simp)
                  have e40 : a.tmps.getD 40 undef = y40 := hT 40 (by simp)
                  have e41 : a.tmps.getD 41 undef = y41 := hT 41 (by simp)
                  have e42 : a.tmps.getD 42 undef = y42 := hT 42 (by simp)
                  have e43 : a.tmps.getD 43 undef = y43 := hT 43 (by simp)
                  have e44 : a.tmps.getD 44 undef = y44 := hT 44 (by simp)
                  have e45 : a.tmps.getD 45 undef = y45 := hT 45 (by simp)
                  have e46 : a.tmps.getD 46 undef = y46 := hT 46 (by simp)
                  have e47 : a.tmps.getD 47 undef = .slice (some ⟨gb, 0, none⟩) n1 cp := hT 47 (by simp)
                  have e48 : a.tmps.getD 48 undef = .slice (adv (some ⟨gb, 0, none⟩) cp 3) (n1 - 3) (cp - 3) := hT 48 (by simp)
                  have e49 : a.tmps.getD 49 undef = .string s := hT 49 (by simp)
                  have e50 : a.tmps.getD 50 undef = .pointer (some ⟨w4.heap.size, 0, none⟩) := hT 50 (by simp)
                  have e51 : a.tmps.getD 51 undef = .tuple #[.bool true, .int .i64 (q : Nat), .int .i32 r] := hT 51 (by simp)
                  have e52 : a.tmps.getD 52 undef = .bool true := hT 52 (by simp)
                  have e53 : a.tmps.getD 53 undef = .int .i32 r := hT 53 (by simp)
                  have e54 : a.tmps.getD 54 undef = .int .i32 r := hT 54 (by simp)
                  have e55 : a.tmps.getD 55 undef = .int .i64 (RL.length : Nat) := hT 55 (by simp)
                  have e56 : a.tmps.getD 56 undef = .int .i64 (j : Nat) := hT 56 (by simp)
                  clear hT hF hP hS
                  rw [act_lit 86 a hd hsz]
                  simp only [List.range, List.range.loop, List.map, e0, e1, e2, e3, e4, e5, e6, e7, e8, e9, e10, e11, e12, e13, e14, e15, e16, e17, e18, e19, e20, e21, e22, e23, e24, e25, e26, e27, e28, e29, e30, e31, e32, e33, e34, e35, e36, e37, e38, e39, e40, e41, e42, e43, e44, e45, e46, e47, e48, e49, e50, e51, e52, e53, e54, e55, e56]
                  clear e0 e1 e2 e3 e4 e5 e6 e7 e8 e9 e10 e11 e12 e13 e14 e15 e16 e17 e18 e19 e20 e21 e22 e23 e24 e25 e26 e27 e28 e29 e30 e31 e32 e33 e34 e35 e36 e37 e38 e39 e40 e41 e42 e43 e44 e45 e46 e47 e48 e49 e50 e51 e52 e53 e54 e55 e56 hsz hd hbox0 hrow0
                  have hM9 := hM8.data (t := ub 0 u) hK hbF (by rw [List.length_append, List.map_append, ub_len2 0 (by omega) u]; exact hoF) hlF
                  have hi9 : W'.heap[w4.heap.size]? = some (.stringIter s (q + k)) := (hK.block _ (Array.getElem?_eq_some_iff.1 hi7).1 (fun ht => hM8.j.i.iter hi7 (by rcases ht with rfl | ht; exact .inl rfl; exact .inr (.inl ht)))).trans hi7
                  have hr9 := (hM9.r.unit (by omega)).2.2.2
                  have hL9 := LI.next (by omega) hL (d' := v9) (c' := c6) (W' := W') ⟨by rw [hpu7]; exact hM9.j, hr9, hM9.b, hM9.ap⟩
                  rw [hus2] at hL9
                  clear hM9 hM8 hK hbF hoF hlF hr9 hL HS hgl hvl hng8 hpu7
                  go_wp2_with (refine wpList_lo rfl (.tmp 82) (.tmp 83) rfl rfl rfl (run_lo _ (some ⟨gb, o, none⟩) n' c' 1 (by omega)) ?_)
                  go_roundw
                  case rel => exact ⟨j + 1, _, _, _, _, _, _, _, rfl, by go_num, by omega, hL9, hi9⟩
                  case measure => simp [Go.RowKit.intOf]; omega
              · have hpu := putU_go (k := 1) (w := 0) rfl u hcut
                rw [decide_eq_false hcut] at hmr
                have hrm := fun W' c2 (hJ : PJ wr W' base g (cutN 1 S') PS d c p d c2 p) => hL.room hJ
                rw [show cutN 1 S' = S' from if_neg hcut] at hrm hmr
                clear hcut
                go_wp2_with fail
                refine hmr.mono ?_
                rintro e w8 ⟨c6, rfl, hJ⟩
                have hM7 := hrm _ _ hJ
                have hi7 : w8.heap[w4.heap.size]? = some (.stringIter s (q + k)) := (hJ.keep.block _ hgl4 hng).trans hi
                have hb7 : S'.b.length ≤ 10003004 := by omega
                have hpu7 := hpu
                have hM8 := hM7
                clear hJ hmr hrm hi hpu hM7
                generalize hd7 : d = d7 at hM8
                clear hd7
                obtain ⟨A8, k8, rfl, -, -, -⟩ := own_form hM8.j.i.od
                have hbox0 := hM8.j.i.box
                have hrow0 := hM8.j.i.od
                have hB8 : base ≤ w8.heap.size := Nat.le_trans hB hM8.j.keep.size
                have hgl : g < w8.heap.size := hbox0.lt
                have hvl := own_blk hrow0
                have hng8 := hM8.nogb
                have HS : Hid (∀ W, Keep (ApT g (.slice A8 S'.b.length k8)) w8 W → Rd W W.heap.size 1 (some ⟨gb, o, none⟩) 1 ((ub 0 u).map bv)) := Lib.hid fun W hK => by
                  have hng : ¬ ApT g (.slice A8 S'.b.length k8) gb := by
                    rintro (rfl | ht)
                    · exact hng8 (.inl rfl)
                    · exact hng8 (.inr (.inl ht))
                  exact ((hM8.r.unit (by omega)).2.2.1.keepT hK hng).rd
                go_wp2_with fail
                refine wp_region_phases (S := (ApS w8 base g 83 5 (fun ur => #[ur, c6, .int .i64 (S'.bg : Nat), p]) S'.b.length 1 (S'.b.map bv) ((S'.b.map bv) ++ ((ub 0 u).map bv)) (.slice A8 S'.b.length k8))) (E := (fun W W' => Keep (ApT g (.slice A8 S'.b.length k8)) W W')) [4, 8, 11] [(0, Is (.pointer (some ⟨g, 0, none⟩))), (1, Is (.string s)), (2, Is (y2)), (3, Is (y3)), (4, Is (.slice (some ⟨gb, o, none⟩) n' c')), (5, Is (y5)), (6, Is (.int .u8 0)), (7, Is (.int .i64 1)), (8, Is (y8)), (9, Is (.int .i32 r)), (10, Is (y10)), (11, Is (y11)), (12, Is (y12)), (13, Is (y13)), (14, Is (y14)), (15, Is (y15)), (16, Is (y16)), (17, Is (y17)), (18, Is (y18)), (19, Is (y19)), (20, Is (y20)), (21, Is (y21)), (22, Is (y22)), (23, Is (y23)), (24, Is (y24)), (25, Is (y25)), (26, Is (y26)), (27, Is (y27)), (28, Is (y28)), (29, Is (y29)), (30, Is (y30)), (31, Is (y31)), (32, Is (y32)), (33, Is (y33)), (34, Is (y34)), (35, Is (y35)), (36, Is (y36)), (37, Is (y37)), (38, Is (y38)), (39, Is (y39)), (40, Is (y40)), (41, Is (y41)), (42, Is (y42)), (43, Is (y43)), (44, Is (y44)), (45, Is (y45)), (46, Is (y46)), (47, Is (.slice (some ⟨gb, 0, none⟩) n1 cp)), (48, Is (.slice (adv (some ⟨gb, 0, none⟩) cp 3) (n1 - 3) (cp - 3))), (49, Is (.string s)), (50, Is (.pointer (some ⟨w4.heap.size, 0, none⟩))), (51, Is (.tuple #[.bool true, .int .i64 (q : Nat), .int .i32 r])), (52, Is (.bool true)), (53, Is (.int .i32 r)), (54, Is (.int .i32 r)), (55, Is (.int .i64 (RL.length : Nat))), (56, Is (.int .i64 (j : Nat)))] [(71, Is (.pointer (some ⟨g, 0, none⟩))), (72, Is (.pointer (some ⟨g, 0, none⟩))), (73, Is (.pointer (some ⟨g, 0, none⟩))), (74, Is (.pointer (some ⟨g, 0, none⟩))), (76, Is (.slice (some ⟨gb, o, none⟩) n' c')), (77, Is (.int .i64 1)), (78, Is (.slice (some ⟨gb, o, none⟩) 1 c')), (80, Is (.pointer (some ⟨g, 0, none⟩))), (81, Is (.pointer (some ⟨g, 0, none⟩)))]
                  [.op [0] none, .op [0] none, .op [72] none, .op [73] none, .phase 0 [74] [], .op [4] none, .op [7] none, .op [76, 77] none, .phase 1 [78] [(0, 75)], .op [71] none, .op [80] none, .phase 2 [81] [(1, 79)]] (by as_aux_lemma => kernel_rfl) ?_ ?_ ?_ ?_ ?_ ⟨stable_is _ _, stable_is _ _, stable_is _ _, stable_is _ _, stable_is _ _, stable_is _ _, stable_is _ _, stable_is _ _, stable_is _ _, stable_is _ _, stable_is _ _, stable_is _ _, stable_is _ _, stable_is _ _, stable_is _ _, stable_is _ _, stable_is _ _, stable_is _ _, stable_is _ _, stable_is _ _, stable_is _ _, stable_is _ _, stable_is _ _, stable_is _ _, stable_is _ _, stable_is _ _, stable_is _ _, stable_is _ _, stable_is _ _, stable_is _ _, stable_is _ _, stable_is _ _, stable_is _ _, stable_is _ _, stable_is _ _, stable_is _ _, stable_is _ _, stable_is _ _, stable_is _ _, stable_is _ _, stable_is _ _, stable_is _ _, stable_is _ _, stable_is _ _, stable_is _ _, stable_is _ _, stable_is _ _, stable_is _ _, stable_is _ _, stable_is _ _, stable_is _ _, stable_is _ _, stable_is _ _, stable_is _ _, stable_is _ _, stable_is _ _, stable_is _ _, stable_is _ _, stable_is _ _, stable_is _ _, stable_is _ _, stable_is _ _, stable_is _ _, stable_is _ _, stable_is _ _, stable_is _ _, trivial⟩ ?_ (ApS.start hbox0 hrow0) ?_ ?_
                · as_aux_lemma => kernel_rfl
                · as_aux_lemma => kernel_rfl
                · as_aux_lemma => kernel_rfl
                · as_aux_lemma => kernel_rfl
                · as_aux_lemma => kernel_rfl
                · exact ⟨rfl, rfl, rfl, rfl, rfl, rfl, rfl, rfl, rfl, rfl, rfl, rfl, rfl, rfl, rfl, rfl, rfl, rfl, rfl, rfl, rfl, rfl, rfl, rfl, rfl, rfl, rfl, rfl, rfl, rfl, rfl, rfl, rfl, rfl, rfl, rfl, rfl, rfl, rfl, rfl, rfl, rfl, rfl, rfl, rfl, rfl, rfl, rfl, rfl, rfl, rfl, rfl, rfl, rfl, rfl, rfl, rfl, trivial⟩
                · refine ⟨?_, ?_, ?_, ?_, ?_, ?_, ?_, ?_, ?_, ?_, ?_, ?_, trivial⟩
                  · as_aux_lemma =>
                      intro vals a W hS hL
                      have e0 : a.tmps.getD 0 undef = .pointer (some ⟨g, 0, none⟩) := hL.1
                      clear hL
                      go_simp
                      exact ⟨⟨fun d hd => by injection hd with hd; subst hd; rfl, fun h => by cases h⟩, hS, Keep.refl _ _⟩
                  · as_aux_lemma =>
                      intro vals a W hS hL
                      have e0 : a.tmps.getD 0 undef = .pointer (some ⟨g, 0, none⟩) := hL.1
                      clear hL
                      go_simp
                      exact ⟨⟨fun d hd => by injection hd with hd; subst hd; rfl, fun h => by cases h⟩, hS, Keep.refl _ _⟩
                  · as_aux_lemma =>
                      intro vals a W hS hL
                      have e72 : a.tmps.getD 72 undef = .pointer (some ⟨g, 0, none⟩) := hL.1
                      clear hL
                      go_simp
                      exact ⟨⟨fun d hd => by injection hd with hd; subst hd; rfl, fun h => by cases h⟩, hS, Keep.refl _ _⟩
                  · as_aux_lemma =>
                      intro vals a W hS hL
                      have e73 : a.tmps.getD 73 undef = .pointer (some ⟨g, 0, none⟩) := hL.1
                      clear hL
                      go_simp
                      exact ⟨⟨fun d hd => by injection hd with hd; subst hd; rfl, fun h => by cases h⟩, hS, Keep.refl _ _⟩
                  · as_aux_lemma =>
                      intro a W vals hv hS hL hp
                      have e74 : a.tmps.getD 74 undef = .pointer (some ⟨g, 0, none⟩) := hL.1
                      clear hL
                      match vals, hv, hS with
                      | [], _, hS =>
                        have fb : W.cell? ⟨g, 0, none⟩ = some (.slice A8 S'.b.length k8) := hS.2.1.cell 0
                        go_simp
                        exact ⟨⟨rfl, hS⟩, trivial, Keep.refl _ _⟩
                  · as_aux_lemma =>
                      intro vals a W hS hL
                      have e4 : a.tmps.getD 4 undef = .slice (some ⟨gb, o, none⟩) n' c' := hL.1
                      clear hL
                      go_simp
                      exact ⟨⟨fun d hd => by injection hd with hd; subst hd; rfl, fun h => by cases h⟩, hS, Keep.refl _ _⟩
                  · as_aux_lemma =>
                      intro vals a W hS hL
                      have e7 : a.tmps.getD 7 undef = .int .i64 1 := hL.1
                      clear hL
                      go_simp
                      exact ⟨⟨fun d hd => by injection hd with hd; subst hd; rfl, fun h => by cases h⟩, hS, Keep.refl _ _⟩
                  · as_aux_lemma =>
                      intro vals a W hS hL
                      have e76 : a.tmps.getD 76 undef = .slice (some ⟨gb, o, none⟩) n' c' := hL.1
                      have e77 : a.tmps.getD 77 undef = .int .i64 1 := hL.2.1
                      clear hL
                      refine lands_hi (.tmp 76) (.tmp 77) rfl e76 e77 (run_hi W gb o n' c' 1 (by omega)) ?_
                      exact ⟨⟨fun d hd => by injection hd with hd; subst hd; rfl, fun h => by cases h⟩, hS, Keep.refl _ _⟩
                  · as_aux_lemma =>
                      intro a W vals hv hS hL hp
                      have e78 : a.tmps.getD 78 undef = .slice (some ⟨gb, o, none⟩) 1 c' := hL.1
                      clear hL
                      match vals, hv, hS, hp with
                      | [u], _, hS, hp =>
                        obtain ⟨rfl, hK, hbx, hrow⟩ := hS
                        have e75 := (Option.some.inj (hp.1 (by simp))).symm
                        have hsz := hK.size
                        refine lands_app bytesRow (.tmp 75) (.tmp 78) rfl e75 e78 hrow (HS.out W hK) (bv_one _) (by unfold maxLen; omega) (by omega) (Nat.le_trans hB8 hsz) fun v2_ w2_ o2_ g2_ => ?_
                        have hA := ApS.appended (W0 := w8) (g := g) (T := 83) (C := (fun ur => #[ur, c6, .int .i64 (S'.bg : Nat), p])) (xs := (S'.b.map bv)) ⟨rfl, hK, hbx, hrow⟩ g2_ o2_ (by decide)
                        exact ⟨hA.1, trivial, hA.2⟩
                  · as_aux_lemma =>
                      intro vals a W hS hL
                      have e71 : a.tmps.getD 71 undef = .pointer (some ⟨g, 0, none⟩) := hL.1
                      clear hL
                      go_simp
                      exact ⟨⟨fun d hd => by injection hd with hd; subst hd; rfl, fun h => by cases h⟩, hS, Keep.refl _ _⟩
                  · as_aux_lemma =>
                      intro vals a W hS hL
                      have e80 : a.tmps.getD 80 undef = .pointer (some ⟨g, 0, none⟩) := hL.1
                      clear hL
                      go_simp
                      exact ⟨⟨fun d hd => by injection hd with hd; subst hd; rfl, fun h => by cases h⟩, hS, Keep.refl _ _⟩
                  · as_aux_lemma =>
                      intro a W vals hv hS hL hp
                      have e81 : a.tmps.getD 81 undef = .pointer (some ⟨g, 0, none⟩) := hL.1
                      clear hL
                      match vals, hv, hS, hp with
                      | [u, v1], _, hS, hp =>
                        have e79 := (Option.some.inj (hp.1 (by simp))).symm
                        obtain ⟨A2, c2, e2, _⟩ := own_form hS.2.2.1
                        subst e2
                        have kz := hS.2.1
                        have fb : W.cell? ⟨g, 0, none⟩ = some (.slice A8 S'.b.length k8) := kz.cell 0
                        have zb := kz.frozen 0
                        have hF := ApS.stored (x := undef) (k := 0) hS rfl (by decide)
                        rw [Array.getD_eq_getD_getElem?] at e79
                        clear hS kz
                        go_simp
                        exact ⟨hF.1, trivial, hF.2⟩
                · intro a W' vals hd hsz hT hF hv hP hS
                  obtain ⟨x0, v9, x2, rfl⟩ : ∃ x0 x1 x2, vals = [x0, x1, x2] := by
                    match vals, hv with
                    | [x, y, z], _ => exact ⟨x, y, z, rfl⟩
                  obtain ⟨hK, hbF, hoF, hlF⟩ := ApS.done hS
                  have e0 : a.tmps.getD 0 undef = .pointer (some ⟨g, 0, none⟩) := hT 0 (by simp)
                  have e1 : a.tmps.getD 1 undef = .string s := hT 1 (by simp)
                  have e2 : a.tmps.getD 2 undef = y2 := hT 2 (by simp)
                  have e3 : a.tmps.getD 3 undef = y3 := hT 3 (by simp)
                  have e4 : a.tmps.getD 4 undef = .slice (some ⟨gb, o, none⟩) n' c' := hT 4 (by simp)
                  have e5 : a.tmps.getD 5 undef = y5 := hT 5 (by simp)
                  have e6 : a.tmps.getD 6 undef = .int .u8 0 := hT 6 (by simp)
                  have e7 : a.tmps.getD 7 undef = .int .i64 1 := hT 7 (by simp)
                  have e8 : a.tmps.getD 8 undef = y8 := hT 8 (by simp)
                  have e9 : a.tmps.getD 9 undef = .int .i32 r := hT 9 (by simp)
                  have e10 : a.tmps.getD 10 undef = y10 := hT 10 (by simp)
                  have e11 : a.tmps.getD 11 undef = y11 := hT 11 (by simp)
                  have e12 : a.tmps.getD 12 undef = y12 := hT 12 (by simp)
                  have e13 : a.tmps.getD 13 undef = y13 := hT 13 (by simp)
                  have e14 : a.tmps.getD 14 undef = y14 := hT 14 (by simp)
                  have e15 : a.tmps.getD 15 undef = y15 := hT 15 (by simp)
                  have e16 : a.tmps.getD 16 undef = y16 := hT 16 (by simp)
                  have e17 : a.tmps.getD 17 undef = y17 := hT 17 (by simp)
                  have e18 : a.tmps.getD 18 undef = y18 := hT 18 (by simp)
                  have e19 : a.tmps.getD 19 undef = y19 := hT 19 (by simp)
                  have e20 : a.tmps.getD 20 undef = y20 := hT 20 (by simp)
                  have e21 : a.tmps.getD 21 undef = y21 := hT 21 (by simp)
                  have e22 : a.tmps.getD 22 undef = y22 := hT 22 (by simp)
                  have e23 : a.tmps.getD 23 undef = y23 := hT 23 (by simp)
                  have e24 : a.tmps.getD 24 undef = y24 := hT 24 (by simp)
                  have e25 : a.tmps.getD 25 undef = y25 := hT 25 (by simp)
                  have e26 : a.tmps.getD 26 undef = y26 := hT 26 (by simp)
                  have e27 : a.tmps.getD 27 undef = y27 := hT 27 (by simp)
                  have e28 : a.tmps.getD 28 undef = y28 := hT 28 (by simp)
                  have e29 : a.tmps.getD 29 undef = y29 := hT 29 (by simp)
                  have e30 : a.tmps.getD 30 undef = y30 := hT 30 (by simp)
                  have e31 : a.tmps.getD 31 undef = y31 := hT 31 (by simp)
                  have e32 : a.tmps.getD 32 undef = y32 := hT 32 (by simp)
                  have e33 : a.tmps.getD 33 undef = y33 := hT 33 (by simp)
                  have e34 : a.tmps.getD 34 undef = y34 := hT 34 (by simp)
                  have e35 : a.tmps.getD 35 undef = y35 := hT 35 (by simp)
                  have e36 : a.tmps.getD 36 undef = y36 := hT 36 (by simp)
                  have e37 : a.tmps.getD 37 undef = y37 := hT 37 (by simp)
                  have e38 : a.tmps.getD 38 undef = y38 := hT 38 (by simp)
                  have e39 : a.tmps.getD 39 undef = y39 := hT 39 (by simp)
                  have e40 : a.tmps.getD 40 undef = y40 := hT 40 (by simp)
                  have e41 : a.tmps.getD 41 undef = y41 := hT 41 (by simp)
                  have e42 : a.tmps.getD 42 undef = y42 := hT 42 (by simp)
                  have e43 : a.tmps.getD 43 undef = y43 := hT 43 (by simp)
                  have e44 : a.tmps.getD 44 undef = y44 := hT 44 (by simp)
                  have e45 : a.tmps.getD 45 undef = y45 := hT 45 (by simp)
                  have e46 : a.tmps.getD 46 undef = y46 := hT 46 (by simp)
                  have e47 : a.tmps.getD 47 undef = .slice (some ⟨gb, 0, none⟩) n1 cp := hT 47 (by simp)
                  have e48 : a.tmps.getD 48 undef = .slice (adv (some ⟨gb, 0, none⟩) cp 3) (n1 - 3) (cp - 3) := hT 48 (by simp)
                  have e49 : a.tmps.getD 49 undef = .string s := hT 49 (by simp)
                  have e50 : a.tmps.getD 50 undef = .pointer (some ⟨w4.heap.size, 0, none⟩) := hT 50 (by simp)
                  have e51 : a.tmps.getD 51 undef = .tuple #[.bool true, .int .i64 (q : Nat), .int .i32 r] := hT 51 (by simp)
                  have e52 : a.tmps.getD 52 undef = .bool true := hT 52 (by simp)
                  have e53 : a.tmps.getD 53 undef = .int .i32 r := hT 53 (by simp)
                  have e54 : a.tmps.getD 54 undef = .int .i32 r := hT 54 (by simp)
                  have e55 : a.tmps.getD 55 undef = .int .i64 (RL.length : Nat) := hT 55 (by simp)
                  have e56 : a.tmps.getD 56 undef = .int .i64 (j : Nat) := hT 56 (by simp)
                  clear hT hF hP hS
                  rw [act_lit 86 a hd hsz]
                  simp only [List.range, List.range.loop, List.map, e0, e1, e2, e3, e4, e5, e6, e7, e8, e9, e10, e11, e12, e13, e14, e15, e16, e17, e18, e19, e20, e21, e22, e23, e24, e25, e26, e27, e28, e29, e30, e31, e32, e33, e34, e35, e36, e37, e38, e39, e40, e41, e42, e43, e44, e45, e46, e47, e48, e49, e50, e51, e52, e53, e54, e55, e56]
                  clear e0 e1 e2 e3 e4 e5 e6 e7 e8 e9 e10 e11 e12 e13 e14 e15 e16 e17 e18 e19 e20 e21 e22 e23 e24 e25 e26 e27 e28 e29 e30 e31 e32 e33 e34 e35 e36 e37 e38 e39 e40 e41 e42 e43 e44 e45 e46 e47 e48 e49 e50 e51 e52 e53 e54 e55 e56 hsz hd hbox0 hrow0
                  have hM9 := hM8.data (t := ub 0 u) hK hbF (by rw [List.length_append, List.map_append, ub_len2 0 (by omega) u]; exact hoF) hlF
                  have hi9 : W'.heap[w4.heap.size]? = some (.stringIter s (q + k)) := (hK.block _ (Array.getElem?_eq_some_iff.1 hi7).1 (fun ht => hM8.j.i.iter hi7 (by rcases ht with rfl | ht; exact .inl rfl; exact .inr (.inl ht)))).trans hi7
                  have hr9 := (hM9.r.unit (by omega)).2.2.2
                  have hL9 := LI.next (by omega) hL (d' := v9) (c' := c6) (W' := W') ⟨by rw [hpu7]; exact hM9.j, hr9, hM9.b, hM9.ap⟩
                  rw [hus2] at hL9
                  clear hM9 hM8 hK hbF hoF hlF hr9 hL HS hgl hvl hng8 hpu7
                  go_wp2_with (refine wpList_lo rfl (.tmp 82) (.tmp 83) rfl rfl rfl (run_lo _ (some ⟨gb, o, none⟩) n' c' 1 (by omega)) ?_)
                  go_roundw
                  case rel => exact ⟨j + 1, _, _, _, _, _, _, _, rfl, by go_num, by omega, hL9, hi9⟩
                  case measure => simp [Go.RowKit.intOf]; omega
            · obtain rfl : j = RL.length := by omega
              have hpos2 := iterPos_at hi
              rw [List.drop_length, List.nil_append] at hL
              go_wp2
              go_roundw
              case rel => exact ⟨q + k, S', d, c, p, A', n', c', rfl, hL, hi, hle⟩
              case measure => rw [hpos2, hpos]; omega
        · have hnx : ∀ ty, (Instr.next (.pointer (some ⟨w4.heap.size, 0, none⟩)) true ty).run Tryz.prog wr = _ := fun ty => run_next_end_at wr w4.heap.size s q ty hi hp
          have hf := hL.f
          rw [show unis (s.data.toList.drop q) = [] by unfold unis; rw [rns_end s q hp]; rfl] at hf
          have hf2 : S' = F := hf
          have hj := hL.j
          rw [hf2] at hj
          clear hL hf hf2
          go_wp2
          go_end0
          rw [← HPS.out] at hj
          exact ⟨rfl, _, _, _, hj⟩
end Go.Proofs.YtllcecnkbndokaaGreatDoor
