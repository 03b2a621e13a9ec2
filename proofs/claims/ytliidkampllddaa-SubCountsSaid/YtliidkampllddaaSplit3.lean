/- sub.Split from its label 'outside' on. Conditions: as Split0 has them. -/
import Derived.Test.YtliidkampllddaaSplit2
namespace Go.Proofs.Ytliidkampllddaa
open Go.RowKit

def S8 (w W0 : World) (k : Int) : List Value → World → Prop
  | [], W => Keep (fun _ => False) W0 W
  | _ :: _, W => Keep (fun i => i = w.heap.size) W0 W ∧ Bk W w.heap.size 41 #[.int .i64 k, .slice none 0 0]

section
variable {w W0 W W' : World} {k : Int} {vals : List Value} {u0 u1 : Value}
theorem S8.bel (h : S8 w W0 k vals W) (hg : w.heap.size < W0.heap.size) : Below w.heap.size W0 W := by
  match vals, h with
  | [], h => exact Keep.below h (by omega) fun _ _ hf => hf
  | _ :: _, h => exact h.1.below (by omega) fun i hi e => by omega
theorem S8.below (h : S8 w W0 k vals W) (hb : Below W.heap.size W W') : S8 w W0 k vals W' := by
  match vals, h with
  | [], h =>
    have hs := Keep.size h
    exact Keep.trans h (T := fun i => W.heap.size ≤ i) (Keep.of_below hb fun i _ h => h) fun i hi h => by omega
  | _ :: _, h =>
    have hs := h.1.size
    exact ⟨h.1.trans (T := fun i => W.heap.size ≤ i) (Keep.of_below hb fun i _ h => h) fun i hi h => by omega, h.2.below hb h.2.lt⟩
theorem S8.cells (h : S8 w W0 k vals W) (hg : w.heap.size < W0.heap.size) {p : Addr} (hp : p.block < w.heap.size) {v0 v1 v2 v3 : Value}
    (x0 : W0.cell? p = some v0) (x1 : W0.cell? ⟨p.block, p.off + 1, none⟩ = some v1) (x2 : W0.cell? ⟨p.block, p.off + 2, none⟩ = some v2) (x3 : W0.cell? ⟨p.block, p.off + 3, none⟩ = some v3) :
    W.cell? p = some v0 ∧ W.cell? ⟨p.block, p.off + 1, none⟩ = some v1 ∧ W.cell? ⟨p.block, p.off + 2, none⟩ = some v2 ∧ W.cell? ⟨p.block, p.off + 3, none⟩ = some v3 := by
  have hb := h.bel hg
  exact ⟨(hb.cell (p := p) hp).trans x0, (hb.cell (p := ⟨p.block, p.off + 1, none⟩) hp).trans x1, (hb.cell (p := ⟨p.block, p.off + 2, none⟩) hp).trans x2, (hb.cell (p := ⟨p.block, p.off + 3, none⟩) hp).trans x3⟩
theorem S8.stored (hK : Keep (fun _ => False) W0 W) (hb : Bk W w.heap.size 41 #[u0, u1]) :
    S8 w W0 k [undef] ((W.setCell ⟨w.heap.size, 0, none⟩ (.int .i64 k)).setCell ⟨w.heap.size, 1, none⟩ (.slice none 0 0)) ∧ Keep (fun i => i = w.heap.size) W ((W.setCell ⟨w.heap.size, 0, none⟩ (.int .i64 k)).setCell ⟨w.heap.size, 1, none⟩ (.slice none 0 0)) := by
  have kk : Keep (fun i => i = w.heap.size) W ((W.setCell ⟨w.heap.size, 0, none⟩ (.int .i64 k)).setCell ⟨w.heap.size, 1, none⟩ (.slice none 0 0)) :=
    (Keep.setCell (S := fun i => i = w.heap.size) (Keep.refl _ _) (p := ⟨w.heap.size, 0, none⟩) (fun _ => rfl) _).setCell (p := ⟨w.heap.size, 1, none⟩) (fun _ => rfl) _
  refine ⟨⟨(hK.mono fun _ _ h => h.elim).trans kk fun _ _ h => h, ?_⟩, kk⟩
  have := (hb.set_ 0 (.int .i64 k)).set_ 1 (.slice none 0 0)
  simpa using this
end

theorem SpW.opened {w W0 W : World} {k : Int} {vd : Value} {done : List StreamM} {u0 u1 : Value} (h : SpW w (Open w vd (.slice none 0 0)) vd done u0 u1 W0) (hK : Keep (fun i => i = w.heap.size) W0 W) (hb : Bk W w.heap.size 41 #[.int .i64 k, .slice none 0 0]) :
    SpW w (Open w vd (.slice none 0 0)) vd done (.int .i64 k) (.slice none 0 0) W :=
  ⟨h.bel.trans (hK.below (by have := h.box.lt; omega) fun i hi e => by omega), hb, h.own.keep hK (fun i hi e => by have := (h.own.lt i hi).1; omega) (But.move hK (fun i _ h => .inl h) fun i _ h => h), h.few⟩

theorem outN_ok {t : Int} {dn cn n : Nat} (h : outN t dn cn n = 0) : n < 9 ∧ dn = 2 := by
  unfold outN at h
  split at h
  · cases h
  · split at h
    · cases h
    · split at h
      · cases h
      · rename_i h1 h2 h3
        exact ⟨by omega, by omega⟩

set_option maxHeartbeats 8000000 in
theorem split_outside {w : World} {B n c : Nat} {A : Option Addr} {L : List RecM} {Q : Exit → Act → World → Prop} (h : RecsRd w B A n L) (hB : B ≤ w.heap.size) (hn : n ≤ 1000000) (hL : ∀ r ∈ L, Wide r) (hQ : ∀ a W, SpFin w L a W → Q .ret a W) {m : Nat} {r0 body rest : Code}
    (hbody : Try.f8.body = some (.seq r0 (.scope body))) (hr : findLabel body 0 = some (.seq .skip rest)) {a : Act} {W : World} (hJ : SpJ w A n c L 0 a W) (hm : SpMu n 0 a W ≤ m) : rest.wp Try.prog (SpPost w A n c L m Q) a W := by
  have hinside := fun (rest : Code) (hr : findLabel body 2 = some (.seq .skip rest)) a W (hJ : SpJ w A n c L 2 a W) (hm : SpMu n 2 a W ≤ m) => split_inside h hB hn hL hQ hbody hr hJ hm
  have HI := Lib.hid hinside
  clear hinside
  unfold Try.f8 at hbody
  simp only [Option.some.injEq] at hbody
  have hb2 := Code.scope.inj (Code.seq.inj hbody).2
  clear hbody
  subst hb2
  have hr2 := (Code.seq.inj (Option.some.inj hr)).2
  clear hr
  subst hr2
  obtain ⟨i, done, vd, u0, u1, hi, ha, hW, HE⟩ := hJ
  obtain ⟨⟨tl⟩, df⟩ := a
  have hsz : tl.length = 85 := ha.sz
  have hd : df = [] := ha.d
  subst hd
  obtain ⟨y0, y1, y2, y3, y4, y5, y6, y7, y8, y9, y10, y11, y12, y13, y14, y15, y16, y17, y18, y19, y20, y21, y22, y23, y24, y25, y26, y27, y28, y29, y30, y31, y32, y33, y34, y35, y36, y37, y38, y39, y40, y41, y42, y43, y44, y45, y46, y47, y48, y49, y50, y51, y52, y53, y54, y55, y56, y57, y58, y59, y60, y61, y62, y63, y64, y65, y66, y67, y68, y69, y70, y71, y72, y73, y74, y75, y76, y77, y78, y79, y80, y81, y82, y83, y84, rfl⟩ := list85 tl hsz
  have e0 : y0 = _ := ha.t0
  have e5 : y5 = _ := ha.t5
  have e6 : y6 = _ := ha.t6
  have e7 : y7 = _ := ha.t7
  have hmu : n + 1 - i ≤ m := by
    have : SpMu n 0 { tmps := ⟨[y0, y1, y2, y3, y4, y5, y6, y7, y8, y9, y10, y11, y12, y13, y14, y15, y16, y17, y18, y19, y20, y21, y22, y23, y24, y25, y26, y27, y28, y29, y30, y31, y32, y33, y34, y35, y36, y37, y38, y39, y40, y41, y42, y43, y44, y45, y46, y47, y48, y49, y50, y51, y52, y53, y54, y55, y56, y57, y58, y59, y60, y61, y62, y63, y64, y65, y66, y67, y68, y69, y70, y71, y72, y73, y74, y75, y76, y77, y78, y79, y80, y81, y82, y83, y84]⟩, defers := [] } W = n + 1 - i := by
      unfold SpMu
      rw [if_neg (by decide), ha.t7]
      simp [intOf]
    omega
  clear ha hsz hm
  obtain ⟨Ad, cd, rfl, _⟩ := hW.own.form
  subst e0 e5 e6 e7
  have hbel := hW.bel
  have hs0 := hbel.size
  by_cases hin : i = n
  · subst hin
    have hdr : L.drop i = [] := List.drop_eq_nil_of_le (by have := h.len; omega)
    have HE1 := HE.out
    rw [hdr] at HE1
    have HF := Lib.hid (show splitM [] none L = (done, 0, 0) from HE1)
    have hown := hW.own
    have hgs := hW.box.lt
    clear hdr HE1 HE hmu hi hn HI hW
    have hb1 : ((i : Int) == (i : Int)) = true := by simp
    go_wp2
    refine hQ _ _ ⟨rfl, _, rfl, ?_, ?_, ?_, ?_⟩
    · rw [HF.out]; rfl
    · rw [HF.out]; rfl
    · rw [HF.out]
      refine (hown.keep (F' := But W (Mine (.slice Ad done.length cd))) (Keep.refl (fun _ => False) W) (fun _ _ h => h) (Move.wide fun j hj => ⟨hj.1, fun e => hj.2 (.inr (.inl e))⟩)).mono (by omega)
    · exact hbel
  · have hilt : i < n := by omega
    have hkl : i < L.length := by have := h.len; omega
    obtain ⟨ad, rfl, hab, hall⟩ := h.at_ (by omega)
    obtain ⟨D, dc, C, cc, hra⟩ := hall i L[i] (List.getElem?_eq_getElem hkl)
    have hwd := hL L[i] (List.getElem_mem hkl)
    have hgl : L[i]? = some L[i] := List.getElem?_eq_getElem hkl
    have hdr : L.drop i = L[i] :: L.drop (i + 1) := List.drop_eq_getElem_cons hkl
    clear hall
    generalize L[i] = r at hra hwd hgl hdr
    have HE1 := HE.out
    rw [hdr, splitM] at HE1
    have hr1 := hra.below hbel hB
    have c0 := hr1.c0
    have c1 := hr1.c1
    have c2 := hr1.c2
    have c3 := hr1.c3
    have hpl : (ad.add (i * 4)).block < w.heap.size := by have := hr1.low; omega
    have HG := Lib.hid hgl
    clear HE hdr hgl hra hab
    have hb1 : ((i : Int) == (n : Int)) = false := by rw [beq_eq_false_iff_ne]; omega
    have hb2 : (i : Int) < (n : Int) := by omega
    by_cases hz : outN r.type r.data.length r.cuts.length done.length = 0
    · have hbz : (outN r.type r.data.length r.cuts.length done.length != 0) = false := by simp [hz]
      rw [if_pos hz] at HE1
      have HF := Lib.hid HE1
      obtain ⟨h9, hd2⟩ := outN_ok hz
      obtain ⟨t, data, cuts, at_⟩ := r
      match data, hd2 with
      | [x, y], _ =>
        simp only [List.length_cons, List.length_nil, Nat.zero_add, Nat.reduceAdd] at hz hbz c1 hr1 HF c0 c2 c3
        clear HE1 hz hd2
        go_wp2_with fail
        refine (checkOutside_any (t := t) (n := done.length)).mono ?_
        rintro e W0 ⟨rfl, hbw⟩
        have hW1 := hW.below hbw
        have hr2 := hr1.below hbw (by omega)
        clear c0 c1 c2 c3 hr1 hW
        go_wp2_with fail
        have x0 := hr2.c0
        have x1 := hr2.c1
        have x2 := hr2.c2
        have x3 := hr2.c3
        have hrd := hr2.rd.data
        have hbox := hW1.box
        have hgs := hbox.lt
        have hsW := hbw.size
        clear hr2
        generalize hvd : Value.slice Ad done.length cd = vd at *
        have HVD := Lib.hid hvd
        clear hvd
        simp only [List.length_cons, List.length_nil, Nat.zero_add, Nat.reduceAdd] at x1 hrd
        refine wp_region_phases (S := S8 w W0 (le2 x y)) (E := fun W W' => Keep (fun i => i = w.heap.size) W W') [12] [(0, Is (.slice (some ad) n c)), (5, Is (vd)), (6, Is (.pointer (some ⟨w.heap.size, 0, none⟩))), (7, Is (.int .i64 i))] [(24, Is (.slice (some ad) n c)), (25, Is (.int .i64 i)), (26, Is (.pointer (some (ad.add (i * 4))))), (27, Is (.pointer (some ⟨(ad.add (i * 4)).block, (ad.add (i * 4)).off + 1, none⟩))), (28, Is (.slice D 2 dc)), (29, Is (.int .i64 (le2 x y))), (30, Is (.agg #[.int .i64 (le2 x y), .slice none 0 0])), (31, Is (.slice (some ad) n c)), (32, Is (.int .i64 i)), (33, Is (.pointer (some (ad.add (i * 4))))), (34, Is (.pointer (some ⟨(ad.add (i * 4)).block, (ad.add (i * 4)).off + 3, none⟩))), (35, Is (.int .i64 at_)), (8, Is (.int .i64 at_))]
          [.op [0] none, .op [7] none, .op [24, 25] none, .op [26] none, .op [27] none, .op [28] none, .op [29] none, .op [0] none, .op [7] none, .op [31, 32] none, .op [33] none, .op [34] none, .phase 0 [6, 30] [], .op [35] none] (by as_aux_lemma => kernel_rfl) ?_ ?_ ?_ ?_ ?_ ⟨stable_is _ _, stable_is _ _, stable_is _ _, stable_is _ _, stable_is _ _, stable_is _ _, stable_is _ _, stable_is _ _, stable_is _ _, stable_is _ _, stable_is _ _, stable_is _ _, stable_is _ _, stable_is _ _, stable_is _ _, stable_is _ _, stable_is _ _, trivial⟩ ?_ (Keep.refl (fun _ => False) W0).drew ?_ ?_
        · as_aux_lemma => kernel_rfl
        · as_aux_lemma => kernel_rfl
        · as_aux_lemma => kernel_rfl
        · as_aux_lemma => kernel_rfl
        · as_aux_lemma => kernel_rfl
        · exact ⟨rfl, rfl, rfl, rfl, trivial⟩
        · refine ⟨?_, ?_, ?_, ?_, ?_, ?_, ?_, ?_, ?_, ?_, ?_, ?_, ?_, ?_, trivial⟩
          · as_aux_lemma =>
              intro vals a W hS hL
              have e0 : a.tmps.getD 0 undef = .slice (some ad) n c := hL.1
              clear hL
              go_simp
              exact ⟨⟨fun d hd => by injection hd with hd; subst hd; rfl, fun h => by cases h⟩, hS, Keep.refl _ _⟩
          · as_aux_lemma =>
              intro vals a W hS hL
              have e7 : a.tmps.getD 7 undef = .int .i64 i := hL.1
              clear hL
              go_simp
              exact ⟨⟨fun d hd => by injection hd with hd; subst hd; rfl, fun h => by cases h⟩, hS, Keep.refl _ _⟩
          · as_aux_lemma =>
              intro vals a W hS hL
              have e24 : a.tmps.getD 24 undef = .slice (some ad) n c := hL.1
              have e25 : a.tmps.getD 25 undef = .int .i64 i := hL.2.1
              clear hL
              go_simp
              exact ⟨⟨fun d hd => by injection hd with hd; subst hd; rfl, fun h => by cases h⟩, hS, Keep.refl _ _⟩
          · as_aux_lemma =>
              intro vals a W hS hL
              have e26 : a.tmps.getD 26 undef = .pointer (some (ad.add (i * 4))) := hL.1
              clear hL
              go_simp
              exact ⟨⟨fun d hd => by injection hd with hd; subst hd; rfl, fun h => by cases h⟩, hS, Keep.refl _ _⟩
          · as_aux_lemma =>
              intro vals a W hS hL
              have e27 : a.tmps.getD 27 undef = .pointer (some ⟨(ad.add (i * 4)).block, (ad.add (i * 4)).off + 1, none⟩) := hL.1
              clear hL
              obtain ⟨f0, f1, f2, f3⟩ := S8.cells hS hgs hpl x0 x1 x2 x3
              go_simp
              exact ⟨⟨fun d hd => by injection hd with hd; subst hd; rfl, fun h => by cases h⟩, hS, Keep.refl _ _⟩
          · as_aux_lemma =>
              intro vals a W hS hL
              have e28 : a.tmps.getD 28 undef = .slice D 2 dc := hL.1
              clear hL
              have hbw := S8.bel hS hgs
              go_simp
              refine (get16_any (hrd.belowMono hbw hB) rfl rfl (Nat.le_refl _)).mono ?_
              rintro e W' ⟨rfl, d, rfl⟩
              have hb : Below W.heap.size W (W.drewN d) := below_drewN (Below.refl _ _) d
              exact ⟨_, rfl, ⟨fun d hd => by injection hd with hd; subst hd; rfl, fun h => by cases h⟩, S8.below hS hb, Keep.of_below hb fun q hq h => by omega⟩
          · as_aux_lemma =>
              intro vals a W hS hL
              have e29 : a.tmps.getD 29 undef = .int .i64 (le2 x y) := hL.1
              clear hL
              rw [Array.getD_eq_getD_getElem?] at e29
              go_simp
              exact ⟨⟨fun d hd => by injection hd with hd; subst hd; rfl, fun h => by cases h⟩, hS, Keep.refl _ _⟩
          · as_aux_lemma =>
              intro vals a W hS hL
              have e0 : a.tmps.getD 0 undef = .slice (some ad) n c := hL.1
              clear hL
              go_simp
              exact ⟨⟨fun d hd => by injection hd with hd; subst hd; rfl, fun h => by cases h⟩, hS, Keep.refl _ _⟩
          · as_aux_lemma =>
              intro vals a W hS hL
              have e7 : a.tmps.getD 7 undef = .int .i64 i := hL.1
              clear hL
              go_simp
              exact ⟨⟨fun d hd => by injection hd with hd; subst hd; rfl, fun h => by cases h⟩, hS, Keep.refl _ _⟩
          · as_aux_lemma =>
              intro vals a W hS hL
              have e31 : a.tmps.getD 31 undef = .slice (some ad) n c := hL.1
              have e32 : a.tmps.getD 32 undef = .int .i64 i := hL.2.1
              clear hL
              go_simp
              exact ⟨⟨fun d hd => by injection hd with hd; subst hd; rfl, fun h => by cases h⟩, hS, Keep.refl _ _⟩
          · as_aux_lemma =>
              intro vals a W hS hL
              have e33 : a.tmps.getD 33 undef = .pointer (some (ad.add (i * 4))) := hL.1
              clear hL
              go_simp
              exact ⟨⟨fun d hd => by injection hd with hd; subst hd; rfl, fun h => by cases h⟩, hS, Keep.refl _ _⟩
          · as_aux_lemma =>
              intro vals a W hS hL
              have e34 : a.tmps.getD 34 undef = .pointer (some ⟨(ad.add (i * 4)).block, (ad.add (i * 4)).off + 3, none⟩) := hL.1
              clear hL
              obtain ⟨f0, f1, f2, f3⟩ := S8.cells hS hgs hpl x0 x1 x2 x3
              go_simp
              exact ⟨⟨fun d hd => by injection hd with hd; subst hd; rfl, fun h => by cases h⟩, hS, Keep.refl _ _⟩
          · as_aux_lemma =>
              intro a W vals hv hS hL hp
              have e6 : a.tmps.getD 6 undef = .pointer (some ⟨w.heap.size, 0, none⟩) := hL.1
              have e30 : a.tmps.getD 30 undef = .agg #[.int .i64 (le2 x y), .slice none 0 0] := hL.2.1
              clear hL
              match vals, hv, hS with
              | [], _, hS =>
                have hK : Keep (fun _ => False) W0 W := hS
                have hbW := hK.bk hbox fun h => h
                have q0 : W.cell? ⟨w.heap.size, 0, none⟩ = some u0 := hbW.cell 0
                have q1 : W.cell? ⟨w.heap.size, 1, none⟩ = some u1 := hbW.cell 1
                have z0 := hbW.frozen 0
                have z1 := hbW.frozen 1
                obtain ⟨hfin, hE⟩ := S8.stored (k := le2 x y) hK hbW
                rw [Array.getD_eq_getD_getElem?] at e30
                clear hS hK hbW
                go_simp
                exact ⟨hfin, trivial, hE⟩
          · as_aux_lemma =>
              intro vals a W hS hL
              have e35 : a.tmps.getD 35 undef = .int .i64 at_ := hL.1
              clear hL
              go_simp
              exact ⟨⟨fun d hd => by injection hd with hd; subst hd; rfl, fun h => by cases h⟩, hS, Keep.refl _ _⟩
        · intro a W vals hd hsz hT _ hv _ hS
          obtain ⟨u, rfl⟩ : ∃ u, vals = [u] := by
            match vals, hv with
            | [u], _ => exact ⟨u, rfl⟩
          have f0 : a.tmps.getD 0 undef = .slice (some ad) n c := hT 0 (by simp)
          have f5 : a.tmps.getD 5 undef = vd := hT 5 (by simp)
          have f6 : a.tmps.getD 6 undef = .pointer (some ⟨w.heap.size, 0, none⟩) := hT 6 (by simp)
          have f7 : a.tmps.getD 7 undef = .int .i64 i := hT 7 (by simp)
          have f8 : a.tmps.getD 8 undef = .int .i64 at_ := hT 8 (by simp)
          obtain ⟨hK, hbk⟩ := hS
          clear hT x0 x1 x2 x3 hrd hbox
          obtain ⟨⟨tl⟩, df⟩ := a
          simp only [List.size_toArray] at hsz
          obtain rfl : df = [] := hd
          obtain ⟨z0, z1, z2, z3, z4, z5, z6, z7, z8, z9, z10, z11, z12, z13, z14, z15, z16, z17, z18, z19, z20, z21, z22, z23, z24, z25, z26, z27, z28, z29, z30, z31, z32, z33, z34, z35, z36, z37, z38, z39, z40, z41, z42, z43, z44, z45, z46, z47, z48, z49, z50, z51, z52, z53, z54, z55, z56, z57, z58, z59, z60, z61, z62, z63, z64, z65, z66, z67, z68, z69, z70, z71, z72, z73, z74, z75, z76, z77, z78, z79, z80, z81, z82, z83, z84, rfl⟩ := list85 tl hsz
          have g0 : z0 = _ := f0
          have g5 : z5 = _ := f5
          have g6 : z6 = _ := f6
          have g7 : z7 = _ := f7
          have g8 : z8 = _ := f8
          clear f0 f5 f6 f7 f8 hsz
          subst g0 g6 g7 g8
          go_wp2
          go_step3
          rename_i K hK2
          refine hK2 _ _ (HI.out _ rfl _ _ ?_ ?_)
          · refine ⟨i + 1, done, vd, .slice none 0 0, le2 x y, [], at_, by omega, by simp, ⟨rfl, rfl, rfl, (by first | rfl | exact g5), rfl, by go_num⟩, rfl, SpW.opened hW1 hK hbk, by omega, OwnF.nil _ _ _ _ _, HF⟩
          · show n + 1 - ((i : Int) + 1).toNat ≤ m
            omega
    · rw [if_neg hz] at HE1
      have HF := Lib.hid HE1
      have hbz : (outN r.type r.data.length r.cuts.length done.length != 0) = true := by simp [hz]
      clear HE1
      go_wp2_with fail
      refine (checkOutside_any (t := r.type) (n := done.length)).mono ?_
      rintro e W0 ⟨rfl, hbw⟩
      have hb3 := hbel.trans (hbw.mono hs0)
      clear c0 c1 c2 c3 hr1 hW hz HI
      go_wp2
      go_step3
      show SpJ w (some ad) n c L 1 _ _ ∧ SpMu n 1 _ _ < m
      refine ⟨⟨i, _, r, _, by omega, ⟨rfl, rfl, rfl, rfl, rfl, rfl⟩, hb3, HG.out, rfl, HF⟩, ?_⟩
      show 0 < m
      omega
end Go.Proofs.Ytliidkampllddaa
