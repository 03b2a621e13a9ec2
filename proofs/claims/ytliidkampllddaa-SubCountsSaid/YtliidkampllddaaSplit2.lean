/- sub.Split from its label 'inside' on. Conditions: as Split0 has them. -/
import Derived.Test.YtliidkampllddaaSplit17
namespace Go.Proofs.Ytliidkampllddaa
open Go.RowKit

theorem streamsRow : ElemRow Try.prog 25 41 (.agg #[.int .i64 0, .slice none 0 0]) 2 32 := by
  obtain ⟨i, hi, h0, h1, h2⟩ := info_parts (P := Try.prog) (e := 41) (z := .agg #[.int .i64 0, .slice none 0 0]) (size := 2) (bytes := 32) (by kernel_rfl)
  exact ⟨Try.underlying25, ⟨i, hi, h0, h1, h2⟩, rfl, by omega⟩

theorem inN_bof {t : Int} {dn cn : Nat} (h : inN t dn cn = 0) : t ≠ 2057 := by
  rintro rfl
  simp [inN] at h

set_option maxHeartbeats 8000000 in
theorem split_inside {w : World} {B n c : Nat} {A : Option Addr} {L : List RecM} {Q : Exit → Act → World → Prop} (h : RecsRd w B A n L) (hB : B ≤ w.heap.size) (hn : n ≤ 1000000) (hL : ∀ r ∈ L, Wide r) (hQ : ∀ a W, SpFin w L a W → Q .ret a W) {m : Nat} {r0 body rest : Code}
    (hbody : Try.f8.body = some (.seq r0 (.scope body))) (hr : findLabel body 2 = some (.seq .skip rest)) {a : Act} {W : World} (hJ : SpJ w A n c L 2 a W) (hm : SpMu n 2 a W ≤ m) : rest.wp Try.prog (SpPost w A n c L m Q) a W := by
  unfold Try.f8 at hbody
  simp only [Option.some.injEq] at hbody
  have hb2 := Code.scope.inj (Code.seq.inj hbody).2
  clear hbody
  subst hb2
  have hr2 := (Code.seq.inj (Option.some.inj hr)).2
  clear hr
  subst hr2
  obtain ⟨i, done, vd, vo, kind, recs, b, hi, hri, ha, t8, hW, h8, hO, HE⟩ := hJ
  obtain ⟨⟨tl⟩, df⟩ := a
  have hsz : tl.length = 85 := ha.sz
  have hd : df = [] := ha.d
  subst hd
  obtain ⟨y0, y1, y2, y3, y4, y5, y6, y7, y8, y9, y10, y11, y12, y13, y14, y15, y16, y17, y18, y19, y20, y21, y22, y23, y24, y25, y26, y27, y28, y29, y30, y31, y32, y33, y34, y35, y36, y37, y38, y39, y40, y41, y42, y43, y44, y45, y46, y47, y48, y49, y50, y51, y52, y53, y54, y55, y56, y57, y58, y59, y60, y61, y62, y63, y64, y65, y66, y67, y68, y69, y70, y71, y72, y73, y74, y75, y76, y77, y78, y79, y80, y81, y82, y83, y84, rfl⟩ := list85 tl hsz
  have e0 : y0 = _ := ha.t0
  have e5 : y5 = _ := ha.t5
  have e6 : y6 = _ := ha.t6
  have e7 : y7 = _ := ha.t7
  have e8 : y8 = _ := t8
  have hmu : n + 1 - i ≤ m := by
    have : SpMu n 2 { tmps := ⟨[y0, y1, y2, y3, y4, y5, y6, y7, y8, y9, y10, y11, y12, y13, y14, y15, y16, y17, y18, y19, y20, y21, y22, y23, y24, y25, y26, y27, y28, y29, y30, y31, y32, y33, y34, y35, y36, y37, y38, y39, y40, y41, y42, y43, y44, y45, y46, y47, y48, y49, y50, y51, y52, y53, y54, y55, y56, y57, y58, y59, y60, y61, y62, y63, y64, y65, y66, y67, y68, y69, y70, y71, y72, y73, y74, y75, y76, y77, y78, y79, y80, y81, y82, y83, y84]⟩, defers := [] } W = n + 1 - i := by
      unfold SpMu
      rw [if_neg (by decide), ha.t7]
      simp [intOf]
    omega
  clear ha hsz t8 hm
  subst e0 e6 e7 e8
  have hbel := hW.bel
  have hs0 := hbel.size
  have hbxl := hW.box.lt
  obtain ⟨Ao, co, rfl, _⟩ := hO.form
  by_cases hin : i = n
  · subst hin
    have hdr : L.drop i = [] := List.drop_eq_nil_of_le (by have := h.len; omega)
    have HE1 := HE.out
    rw [hdr] at HE1
    have HF := Lib.hid (show splitM [] none L = ([], b, 5) from HE1)
    clear hdr HE1 HE hmu hi hri hn
    have hb1 : ((i : Int) == (i : Int)) = true := by simp
    go_wp2
    refine hQ _ _ ⟨rfl, _, rfl, ?_, ?_, ?_, ?_⟩
    · rw [HF.out]; rfl
    · rw [HF.out]; rfl
    · rw [HF.out]; exact OwnF.nil _ _ _ _ _
    · exact hbel
  · have hilt : i < n := by omega
    have hkl : i < L.length := by have := h.len; omega
    obtain ⟨ad, rfl, hab, hall⟩ := h.at_ (by omega)
    obtain ⟨D, dc, C, cc, hra⟩ := hall i L[i] (List.getElem?_eq_getElem hkl)
    have hwd := hL L[i] (List.getElem_mem hkl)
    have hgl : L[i]? = some L[i] := List.getElem?_eq_getElem hkl
    have hdr : L.drop i = L[i] :: L.drop (i + 1) := List.drop_eq_getElem_cons hkl
    clear hall
    generalize L[i] = r at hra hwd hgl hdr
    have HE1 := HE.out
    rw [hdr, splitM] at HE1
    have hr1 := hra.below hbel hB
    have c0 := hr1.c0
    have c1 := hr1.c1
    have c2 := hr1.c2
    have c3 := hr1.c3
    have hrd := hr1.rd
    have hpl : (ad.add (i * 4)).block < w.heap.size := by have := hr1.low; omega
    have HG := Lib.hid hgl
    clear HE hdr hgl hra hab
    have hb1 : ((i : Int) == (n : Int)) = false := by rw [beq_eq_false_iff_ne]; omega
    have hb2 : (i : Int) < (n : Int) := by omega
    by_cases hz : inN r.type r.data.length r.cuts.length = 0
    · have hbz : (inN r.type r.data.length r.cuts.length != 0) = false := by simp [hz]
      rw [if_pos hz] at HE1
      by_cases h10 : r.type = 10
      · rw [if_pos h10] at HE1
        have HF := Lib.hid HE1
        have hb10 : (r.type == 10) = true := by simp [h10]
        clear HE1 hz h10
        go_wp2_with fail
        refine (checkInside_any (t := r.type)).mono ?_
        rintro e W0 ⟨rfl, hbw⟩
        have hW1 := hW.below hbw
        have hO1 := hO.below hbw
        have hr2 := hr1.below hbw (by omega)
        have d0 := hr2.c0
        have q0 : W0.cell? ⟨w.heap.size, 0, none⟩ = some (.int .i64 kind) := hW1.box.cell 0
        have q1 : W0.cell? ⟨w.heap.size, 1, none⟩ = some (.slice Ao recs.length co) := hW1.box.cell 1
        obtain ⟨S, hS1, hS2, ho⟩ := hW1.own.ex
        obtain ⟨Ad, cd, rfl, _⟩ := hW1.own.form
        have hsW := hbw.size
        clear c0 c1 c2 c3 hr1 hr2
        go_wp2_with (at_builtin; refine wpList_app streamsRow rfl (.tmp 56) (.tmp 58) rfl rfl rfl (ho.alloc _) (Rd.fresh _ _ 2 1 _ rfl) ?_ ?_ ?_ ?_ ?_)
        · intro u hu; simp at hu; rcases hu with rfl | rfl <;> rfl
        · unfold maxLen; omega
        · omega
        · simp; omega
        intro v2 w2 o2 g2 b2_
        have J0 : SpW w (Open w v2 (.slice none 0 0)) v2 (done ++ [⟨kind, recs⟩]) (.int .i64 kind) (.slice Ao recs.length co) w2 :=
          SpW.closed hW1 hO1 hS1 hS2 ((Below.refl _ _).alloc (Nat.le_refl _) _) g2 o2 h8
        clear hW hO hW1 hO1 q0 q1 d0 o2 g2 ho
        go_wp2
        go_step3
        show SpJ w (some ad) n c L 0 _ _ ∧ SpMu n 0 _ _ < m
        refine ⟨⟨i + 1, _, v2, _, _, by omega, ⟨rfl, rfl, rfl, rfl, rfl, by go_num⟩, J0, HF⟩, ?_⟩
        show n + 1 - ((i : Int) + 1).toNat < m
        omega
      · rw [if_neg h10] at HE1
        have HF := Lib.hid HE1
        have hb10 : (r.type == 10) = false := by simp [h10]
        clear HE1 hz h10
        go_wp2_with fail
        refine (checkInside_any (t := r.type)).mono ?_
        rintro e W0 ⟨rfl, hbw⟩
        have hW1 := hW.below hbw
        have hO1 := hO.below hbw
        have hr2 := hr1.below hbw (by omega)
        have x0 := hr2.c0
        have x1 := hr2.c1
        have x2 := hr2.c2
        have x3 := hr2.c3
        have hrd2 := hr2.rd
        clear hrd
        have hrd := hrd2
        clear hrd2
        have hbox := hW1.box
        obtain ⟨S, hS1, hS2, ho⟩ := hO1.ex
        have hlt : ∀ j, Mine (.slice Ao recs.length co) j → w.heap.size + 1 ≤ j ∧ j < W0.heap.size := ho.lt
        have hltd : ∀ j, Mine vd j → j < W0.heap.size := fun j hj => (hW1.own.lt j hj).2
        have hgs := hbox.lt
        have hsW := hbw.size
        clear c0 c1 c2 c3 hr1 hr2 hW hO
        go_wp2_with fail
        refine wp_region_phases (S := S17 w W0 vd (.slice Ao recs.length co) kind (recs ++ [r])) (E := E17 w (.slice Ao recs.length co)) [1, 13, 15] [(0, Is (.slice (some ad) n c)), (5, Is (vd)), (6, Is (.pointer (some ⟨w.heap.size, 0, none⟩))), (7, Is (.int .i64 i)), (8, Is (.int .i64 b))] [(62, Is (.pointer (some ⟨w.heap.size, 1, none⟩))), (64, Is (.slice (some ad) n c)), (65, Is (.int .i64 i)), (66, Is (.pointer (some (ad.add (i * 4))))), (67, Is (.agg #[.int .i64 r.type, .slice D r.data.length dc, .slice C r.cuts.length cc, .int .i64 r.at_])), (68, Is (.slice (some ad) n c)), (69, Is (.int .i64 i)), (70, Is (.pointer (some (ad.add (i * 4))))), (71, Is (.pointer (some ⟨(ad.add (i * 4)).block, (ad.add (i * 4)).off + 3, none⟩))), (72, Is (.int .i64 r.at_)), (73, Cl17 W0.heap.size r), (74, Bl17 W0.heap.size r), (76, Is (.pointer (some ⟨w.heap.size, 1, none⟩)))]
          [.op [6] none, .phase 0 [62] [], .op [0] none, .op [7] none, .op [64, 65] none, .op [66] none, .op [0] none, .op [7] none, .op [68, 69] none, .op [70] none, .op [71] none, .op [67, 72] none, .op [73] none, .phase 1 [74] [(0, 63)], .op [6] none, .phase 2 [76] [(1, 75)]] (by as_aux_lemma => kernel_rfl) ?_ ?_ ?_ ?_ ?_ ⟨stable_is _ _, stable_is _ _, stable_is _ _, stable_is _ _, stable_is _ _, stable_is _ _, stable_is _ _, stable_is _ _, stable_is _ _, stable_is _ _, stable_is _ _, stable_is _ _, stable_is _ _, stable_is _ _, stable_is _ _, cl17_stable hlt hgs, bl17_stable hlt hgs, stable_is _ _, trivial⟩ ?_ (Keep.refl (fun _ => False) W0).drew ?_ ?_
        · as_aux_lemma => kernel_rfl
        · as_aux_lemma => kernel_rfl
        · as_aux_lemma => kernel_rfl
        · as_aux_lemma => kernel_rfl
        · as_aux_lemma => kernel_rfl
        · exact ⟨rfl, rfl, rfl, rfl, rfl, trivial⟩
        · refine ⟨?_, ?_, ?_, ?_, ?_, ?_, ?_, ?_, ?_, ?_, ?_, ?_, ?_, ?_, ?_, ?_, trivial⟩
          · as_aux_lemma =>
              intro vals a W hS hL
              have e6 : a.tmps.getD 6 undef = .pointer (some ⟨w.heap.size, 0, none⟩) := hL.1
              clear hL
              go_simp
              exact ⟨⟨fun d hd => by injection hd with hd; subst hd; rfl, fun h => by cases h⟩, hS, Keep.refl _ _⟩
          · as_aux_lemma =>
              intro a W vals hv hS hL hp
              have e62 : a.tmps.getD 62 undef = .pointer (some ⟨w.heap.size, 1, none⟩) := hL.1
              clear hL
              match vals, hv, hS with
              | [], _, hS =>
                have hK : Keep (fun _ => False) W0 W := hS
                have fb : W.cell? ⟨w.heap.size, 1, none⟩ = some (.slice Ao recs.length co) := (hK.bk hbox fun h => h).cell 1
                go_simp
                exact ⟨⟨rfl, hK⟩, trivial, Keep.refl _ _⟩
          · as_aux_lemma =>
              intro vals a W hS hL
              have e0 : a.tmps.getD 0 undef = .slice (some ad) n c := hL.1
              clear hL
              go_simp
              exact ⟨⟨fun d hd => by injection hd with hd; subst hd; rfl, fun h => by cases h⟩, hS, Keep.refl _ _⟩
          · as_aux_lemma =>
              intro vals a W hS hL
              have e7 : a.tmps.getD 7 undef = .int .i64 i := hL.1
              clear hL
              go_simp
              exact ⟨⟨fun d hd => by injection hd with hd; subst hd; rfl, fun h => by cases h⟩, hS, Keep.refl _ _⟩
          · as_aux_lemma =>
              intro vals a W hS hL
              have e64 : a.tmps.getD 64 undef = .slice (some ad) n c := hL.1
              have e65 : a.tmps.getD 65 undef = .int .i64 i := hL.2.1
              clear hL
              go_simp
              exact ⟨⟨fun d hd => by injection hd with hd; subst hd; rfl, fun h => by cases h⟩, hS, Keep.refl _ _⟩
          · as_aux_lemma =>
              intro vals a W hS hL
              have e66 : a.tmps.getD 66 undef = .pointer (some (ad.add (i * 4))) := hL.1
              clear hL
              obtain ⟨f0, f1, f2, f3⟩ := S17.cells hS hlt hgs hpl x0 x1 x2 x3
              go_simp
              exact ⟨⟨fun d hd => by injection hd with hd; subst hd; rfl, fun h => by cases h⟩, hS, Keep.refl _ _⟩
          · as_aux_lemma =>
              intro vals a W hS hL
              have e0 : a.tmps.getD 0 undef = .slice (some ad) n c := hL.1
              clear hL
              go_simp
              exact ⟨⟨fun d hd => by injection hd with hd; subst hd; rfl, fun h => by cases h⟩, hS, Keep.refl _ _⟩
          · as_aux_lemma =>
              intro vals a W hS hL
              have e7 : a.tmps.getD 7 undef = .int .i64 i := hL.1
              clear hL
              go_simp
              exact ⟨⟨fun d hd => by injection hd with hd; subst hd; rfl, fun h => by cases h⟩, hS, Keep.refl _ _⟩
          · as_aux_lemma =>
              intro vals a W hS hL
              have e68 : a.tmps.getD 68 undef = .slice (some ad) n c := hL.1
              have e69 : a.tmps.getD 69 undef = .int .i64 i := hL.2.1
              clear hL
              go_simp
              exact ⟨⟨fun d hd => by injection hd with hd; subst hd; rfl, fun h => by cases h⟩, hS, Keep.refl _ _⟩
          · as_aux_lemma =>
              intro vals a W hS hL
              have e70 : a.tmps.getD 70 undef = .pointer (some (ad.add (i * 4))) := hL.1
              clear hL
              go_simp
              exact ⟨⟨fun d hd => by injection hd with hd; subst hd; rfl, fun h => by cases h⟩, hS, Keep.refl _ _⟩
          · as_aux_lemma =>
              intro vals a W hS hL
              have e71 : a.tmps.getD 71 undef = .pointer (some ⟨(ad.add (i * 4)).block, (ad.add (i * 4)).off + 3, none⟩) := hL.1
              clear hL
              obtain ⟨f0, f1, f2, f3⟩ := S17.cells hS hlt hgs hpl x0 x1 x2 x3
              go_simp
              exact ⟨⟨fun d hd => by injection hd with hd; subst hd; rfl, fun h => by cases h⟩, hS, Keep.refl _ _⟩
          · as_aux_lemma =>
              intro vals a W hS hL
              have e67 : a.tmps.getD 67 undef = .agg #[.int .i64 r.type, .slice D r.data.length dc, .slice C r.cuts.length cc, .int .i64 r.at_] := hL.1
              have e72 : a.tmps.getD 72 undef = .int .i64 r.at_ := hL.2.1
              clear hL
              have hbw := S17.bel hS hlt hgs
              have hsz := S17.size hS
              go_simp
              refine (subClone_any (hrd.data.belowMono hbw hB) (hrd.cuts.belowMono hbw hB) (by omega) hwd.1 hwd.2).mono ?_
              rintro e W' ⟨dv, cv, rfl, od, oc, hb⟩
              obtain ⟨Dv, dvc, rfl, _, _, _⟩ := own_form od
              obtain ⟨Cv, cvc, rfl, _, _, _⟩ := own_form oc
              exact ⟨_, rfl, ⟨fun d hd => by injection hd with hd; subst hd; exact ⟨Dv, dvc, Cv, cvc, rfl, own_mono od hsz, own_mono oc hsz⟩, fun h => by cases h⟩, S17.below hS hb, Keep.of_below hb fun q hq h => by omega⟩
          · as_aux_lemma =>
              intro vals a W hS hL
              have e73 := hL.1
              clear hL
              obtain ⟨Dv, dvc, Cv, cvc, e73, od, oc⟩ := e73
              rw [Array.getD_eq_getD_getElem?] at e73
              have hb : Below W.heap.size W (W.alloc (.cells #[.int .i64 r.type, .slice Dv r.data.length dvc, .slice Cv r.cuts.length cvc, .int .i64 r.at_] 49)) := (Below.refl _ _).alloc (Nat.le_refl _) _
              have hsz := S17.size hS
              go_simp
              exact ⟨⟨fun d hd => by injection hd with hd; subst hd; exact ⟨_, Dv, dvc, Cv, cvc, rfl, hsz, Bk.new _ _ _, own_below od hb, own_below oc hb⟩, fun h => by cases h⟩, S17.below hS hb, Keep.of_below hb fun q hq h => by omega⟩
          · as_aux_lemma =>
              intro a W vals hv hS hL hp
              have e74 := hL.1
              clear hL
              obtain ⟨g, Dv, dvc, Cv, cvc, e74, hg, hk, od, oc⟩ := e74
              match vals, hv, hS, hp with
              | [u], _, hS, hp =>
                obtain ⟨rfl, hK⟩ := hS
                have e63 : a.tmps.getD 63 undef = .slice Ao recs.length co := (Option.some.inj (hp.1 (by simp))).symm
                have ow := hK.own ho fun _ _ h => h
                have hsz := hK.size
                refine lands_app recsRow (.tmp 63) (.tmp 74) rfl e63 e74 ow (bk_rd (k := 4) (n := 1) hk rfl) (by intro u hu; simp at hu; rcases hu with rfl | rfl | rfl | rfl <;> rfl) (by unfold maxLen; omega) (by omega) (by omega) fun v2 w2 o2 g2 => ?_
                exact ⟨S17.appended hS1 hS2 hK g2 hlt hltd hgs rfl od oc hrd.fit hrd.dcap.2 hrd.ccap.2 o2, trivial, Keep.of_grew g2 fun _ h => .inr h.symm⟩
          · as_aux_lemma =>
              intro vals a W hS hL
              have e6 : a.tmps.getD 6 undef = .pointer (some ⟨w.heap.size, 0, none⟩) := hL.1
              clear hL
              go_simp
              exact ⟨⟨fun d hd => by injection hd with hd; subst hd; rfl, fun h => by cases h⟩, hS, Keep.refl _ _⟩
          · as_aux_lemma =>
              intro a W vals hv hS hL hp
              have e76 : a.tmps.getD 76 undef = .pointer (some ⟨w.heap.size, 1, none⟩) := hL.1
              clear hL
              match vals, hv, hS, hp with
              | [u, v], _, hS, hp =>
                have e75 : a.tmps.getD 75 undef = v := (Option.some.inj (hp.1 (by simp))).symm
                obtain ⟨A2, c2, e2, _⟩ := hS.2.1.form
                rw [List.length_append, List.length_singleton] at e2
                subst e2
                have hbW := hS.1.bk hbox fun h => by have := (hlt _ h).1; omega
                have q0 : W.cell? ⟨w.heap.size, 1, none⟩ = some (.slice Ao recs.length co) := hbW.cell 1
                have q1 := hbW.frozen 1
                obtain ⟨hfin, hE⟩ := S17.stored hS hbox hlt
                rw [Array.getD_eq_getD_getElem?] at e75
                clear hS
                go_simp
                exact ⟨hfin, trivial, hE⟩
        · intro a W vals hd hsz hT _ hv _ hS
          obtain ⟨u, v, x, rfl⟩ : ∃ u v x, vals = [u, v, x] := by
            match vals, hv with
            | [u, v, x], _ => exact ⟨u, v, x, rfl⟩
          obtain ⟨J1, J2⟩ := S17.done hS hW1 hO1
          have f0 : a.tmps.getD 0 undef = .slice (some ad) n c := hT 0 (by simp)
          have f5 : a.tmps.getD 5 undef = vd := hT 5 (by simp)
          have f6 : a.tmps.getD 6 undef = .pointer (some ⟨w.heap.size, 0, none⟩) := hT 6 (by simp)
          have f7 : a.tmps.getD 7 undef = .int .i64 i := hT 7 (by simp)
          have f8 : a.tmps.getD 8 undef = .int .i64 b := hT 8 (by simp)
          clear hT hS hW1 hO1 hS1 hS2 ho hbox x0 x1 x2 x3 hrd
          obtain ⟨⟨tl⟩, df⟩ := a
          simp only [List.size_toArray] at hsz
          obtain rfl : df = [] := hd
          obtain ⟨z0, z1, z2, z3, z4, z5, z6, z7, z8, z9, z10, z11, z12, z13, z14, z15, z16, z17, z18, z19, z20, z21, z22, z23, z24, z25, z26, z27, z28, z29, z30, z31, z32, z33, z34, z35, z36, z37, z38, z39, z40, z41, z42, z43, z44, z45, z46, z47, z48, z49, z50, z51, z52, z53, z54, z55, z56, z57, z58, z59, z60, z61, z62, z63, z64, z65, z66, z67, z68, z69, z70, z71, z72, z73, z74, z75, z76, z77, z78, z79, z80, z81, z82, z83, z84, rfl⟩ := list85 tl hsz
          have g0 : z0 = _ := f0
          have g5 : z5 = _ := f5
          have g6 : z6 = _ := f6
          have g7 : z7 = _ := f7
          have g8 : z8 = _ := f8
          clear f0 f5 f6 f7 f8 hsz
          subst g0 g6 g7 g8
          go_wp2
          go_step3
          show SpJ w (some ad) n c L 2 _ _ ∧ SpMu n 2 _ _ < m
          refine ⟨⟨i + 1, done, vd, v, kind, recs ++ [r], b, by omega, by simp; omega, ⟨rfl, rfl, rfl, (by first | rfl | exact g5), rfl, by go_num⟩, rfl, J1, h8, J2, HF⟩, ?_⟩
          show n + 1 - ((i : Int) + 1).toNat < m
          omega
    · rw [if_neg hz] at HE1
      have HF := Lib.hid HE1
      have hbz : (inN r.type r.data.length r.cuts.length != 0) = true := by simp [hz]
      clear HE1
      go_wp2_with fail
      refine (checkInside_any (t := r.type)).mono ?_
      rintro e W0 ⟨rfl, hbw⟩
      have hb3 := hbel.trans (hbw.mono hs0)
      clear c0 c1 c2 c3 hr1 hW hO hz
      go_wp2
      go_step3
      show SpJ w (some ad) n c L 1 _ _ ∧ SpMu n 1 _ _ < m
      refine ⟨⟨i, vd, r, _, by omega, ⟨rfl, rfl, rfl, (by first | rfl | exact e5), rfl, rfl⟩, hb3, HG.out, rfl, HF⟩, ?_⟩
      show 0 < m
      omega
end Go.Proofs.Ytliidkampllddaa
