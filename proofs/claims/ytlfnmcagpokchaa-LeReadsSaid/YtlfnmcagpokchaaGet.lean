/- cashbookref7.GetBytes by its contract. Condition: the bytes read as such. -/
import Derived.Test.YtlfnmcagpokchaaBy
import Derived.Test.YtlfnmcagpokchaaPhase
import Derived.Test.YtlfnmcagpokchaaApp0
namespace Go.Proofs.Ytlfnmcagpokchaa
open Go.RowKit

theorem getBytes_none {w W : World} {n c : Nat} {at_ k e : Int} {A : Option Addr} {l : List UInt8} (hl : l.length = n) (he : tkE at_ k n = e) (h0 : e ≠ 0) (hb : Below w.heap.size w W) :
    ∃ v', Ending.returned (.tuple #[.slice none 0 0, .agg #[.slice A n c, .int .i64 at_], .int .i64 e]) = .returned (.tuple #[v', .agg #[.slice A n c, .int .i64 (tkAt at_ k n)], .int .i64 (tkE at_ k n)]) ∧
      W.ownsRow w.heap.size 5 1 v' (tkL l at_ k).length ((tkL l at_ k).map bv) ∧ Below w.heap.size w W := by
  obtain ⟨h1, h2⟩ := tk_err hl he h0
  rw [h1, h2, he]
  exact ⟨_, rfl, World.ownsRow_nil _ _ _ _, hb⟩

theorem getBytes_some {w W : World} {n c p q b : Nat} {A : Option Addr} {l : List UInt8} {v : Value} {L : List UInt8} {m : Nat} (hl : l.length = n) (he : tkE p q n = 0) (hL : L = tkL l p q) (hm : m = q) (ho : W.ownsRow b 5 1 v m (L.map bv)) (hb0 : w.heap.size ≤ b) (hb : Below w.heap.size w W) :
    ∃ v', Ending.returned (.tuple #[v, .agg #[.slice A n c, .int .i64 ((p : Int) + (q : Int))], .int .i64 0]) = .returned (.tuple #[v', .agg #[.slice A n c, .int .i64 (tkAt p q n)], .int .i64 (tkE p q n)]) ∧
      W.ownsRow w.heap.size 5 1 v' (tkL l p q).length ((tkL l p q).map bv) ∧ Below w.heap.size w W := by
  obtain ⟨h0, h1, h2⟩ := tkE_ok he
  have hL2 : tkL l p q = (l.drop p).take q := by unfold tkL; rw [if_pos (by rw [hl]; exact he)]; simp
  have hlen : (tkL l p q).length = q := by rw [hL2, List.length_take, List.length_drop]; omega
  subst hL hm
  rw [he, show tkAt p m n = (p : Int) + m by unfold tkAt; rw [if_pos he]]
  refine ⟨v, rfl, ?_, hb⟩
  rw [hlen]
  exact own_mono ho hb0

def GbMade (R : Nat) : Value → World → Prop := fun v W => ∃ g, v = .slice (some ⟨g, 0, none⟩) 0 0 ∧ W.ownsRow (R + 1) 5 1 (.slice (some ⟨g, 0, none⟩) 0 0) 0 []
def GbOwn (R q : Nat) (L : List UInt8) : Value → World → Prop := fun v W => ∃ b k, v = .slice (some b) q k ∧ W.ownsRow (R + 1) 5 1 (.slice (some b) q k) q (L.map bv)
def GbSl (w : World) (B q : Nat) (L : List UInt8) : Value → World → Prop := fun v _ => ∃ A' c', v = .slice A' q c' ∧ Rd w B 1 A' q (L.map bv)

theorem gb_keep {W W' : World} {R n : Nat} {T : TypeId} {v : Value} {xs : List Value} (hE : Keep (fun i => i = R) W W') (h : W.ownsRow (R + 1) T 1 v n xs) : W'.ownsRow (R + 1) T 1 v n xs :=
  hE.own h fun i hi e => by have := (h.lt i hi).1; omega
theorem gb_made {R : Nat} : Stable (fun W W' => Keep (fun i => i = R) W W') (GbMade R) := fun _ _ _ hE h => by
  obtain ⟨g, rfl, ho⟩ := h
  exact ⟨g, rfl, gb_keep hE ho⟩
theorem gb_own {R q : Nat} {L : List UInt8} : Stable (fun W W' => Keep (fun i => i = R) W W') (GbOwn R q L) := fun _ _ _ hE h => by
  obtain ⟨b, k, rfl, ho⟩ := h
  exact ⟨b, k, rfl, gb_keep hE ho⟩
theorem gb_sl {w : World} {R B q : Nat} {L : List UInt8} : Stable (fun W W' => Keep (fun i => i = R) W W') (GbSl w B q L) := fun _ _ _ _ h => h

def GbS (w : World) (A : Option Addr) (n c p q : Nat) : List Value → World → Prop
  | [], W => Below w.heap.size w W ∧ Bk W w.heap.size 26 #[.slice A n c, .int .i64 p] ∧ ∃ u0 u1, Bk W (w.heap.size + 1) 26 #[u0, u1]
  | _ :: _, W => Below w.heap.size w W ∧ Bk W w.heap.size 26 #[.slice A n c, .int .i64 p] ∧ Bk W (w.heap.size + 1) 26 #[.slice A n c, .int .i64 ((p : Int) + (q : Int))]

section
variable {w W W' : World} {A : Option Addr} {n c p q : Nat} {vals : List Value}
theorem GbS.bel (h : GbS w A n c p q vals W) : Below w.heap.size w W := by
  match vals, h with
  | [], h => exact h.1
  | _ :: _, h => exact h.1
theorem GbS.box (h : GbS w A n c p q vals W) : Bk W w.heap.size 26 #[.slice A n c, .int .i64 p] := by
  match vals, h with
  | [], h => exact h.2.1
  | _ :: _, h => exact h.2.1
theorem GbS.size (h : GbS w A n c p q vals W) : w.heap.size + 1 + 1 ≤ W.heap.size := by
  match vals, h with
  | [], h => obtain ⟨_, _, hk⟩ := h.2.2; exact hk.lt
  | _ :: _, h => exact h.2.2.lt
theorem GbS.below (h : GbS w A n c p q vals W) (hb : Below W.heap.size W W') : GbS w A n c p q vals W' := by
  have hs := h.size
  match vals, h with
  | [], h =>
    obtain ⟨h1, h2, u0, u1, h3⟩ := h
    exact ⟨h1.trans (hb.mono (by omega)), h2.below hb h2.lt, u0, u1, h3.below hb h3.lt⟩
  | _ :: _, h =>
    obtain ⟨h1, h2, h3⟩ := h
    exact ⟨h1.trans (hb.mono (by omega)), h2.below hb h2.lt, h3.below hb h3.lt⟩
theorem GbS.stored {u0 u1 : Value} (h : GbS w A n c p q [] W) (hk : Bk W (w.heap.size + 1) 26 #[u0, u1]) :
    GbS w A n c p q [undef] ((W.setCell ⟨w.heap.size + 1, 0, none⟩ (.slice A n c)).setCell ⟨w.heap.size + 1, 1, none⟩ (.int .i64 ((p : Int) + (q : Int)))) ∧ Keep (fun i => i = w.heap.size + 1) W ((W.setCell ⟨w.heap.size + 1, 0, none⟩ (.slice A n c)).setCell ⟨w.heap.size + 1, 1, none⟩ (.int .i64 ((p : Int) + (q : Int)))) := by
  have kk : Keep (fun i => i = w.heap.size + 1) W ((W.setCell ⟨w.heap.size + 1, 0, none⟩ (.slice A n c)).setCell ⟨w.heap.size + 1, 1, none⟩ (.int .i64 ((p : Int) + (q : Int)))) :=
    (Keep.setCell (S := fun i => i = w.heap.size + 1) (Keep.refl _ _) (p := ⟨w.heap.size + 1, 0, none⟩) (fun _ => rfl) _).setCell (p := ⟨w.heap.size + 1, 1, none⟩) (fun _ => rfl) _
  have kb := (hk.set_ 0 (.slice A n c)).set_ 1 (.int .i64 ((p : Int) + (q : Int)))
  have hs := h.size
  refine ⟨⟨h.bel.trans (kk.below (by omega) fun i hi e => by omega), kk.bk h.box (by omega), ?_⟩, kk⟩
  simpa using kb
end

set_option maxHeartbeats 2000000 in
theorem getBytes_any {w : World} {B n c : Nat} {at_ k : Int} {A : Option Addr} {l : List UInt8} (h : Rd w B 1 A n (l.map bv)) (hnc : n ≤ c) (hn : n ≤ 1000000000000) (hB : B ≤ w.heap.size) :
    Calls Try.prog 14 #[.agg #[.slice A n c, .int .i64 at_], .int .i64 k] w fun e w' => ∃ v', e = .returned (.tuple #[v', .agg #[.slice A n c, .int .i64 (tkAt at_ k n)], .int .i64 (tkE at_ k n)]) ∧
      w'.ownsRow w.heap.size 5 1 v' (tkL l at_ k).length ((tkL l at_ k).map bv) ∧ Below w.heap.size w w' := by
  have HL := Lib.hid h.blen
  cases hst : stB at_ n
  · have HF := Lib.hid (show tkE at_ k n = 1 by simp [tkE, hst])
    have HT := Lib.hid hst
    clear hst
    go_enter Try.func14, Try.ntmps14
    go_wp2_with fail
    refine bad_any.mono ?_
    rintro e w1 ⟨rfl, hb1⟩
    rw [HT.out]
    obtain ⟨k1, k2, hb', s1⟩ := two_boxes hb1
    have c0 := k1.cell 0
    have c1 := k1.cell 1
    have d0 := k2.cell 0
    have d1 := k2.cell 1
    have z0 := k2.frozen 0
    have z1 := k2.frozen 1
    go_wp2
    go_region
    all_goals
      go_wp2
      refine bodyPost_ret (v := .tuple #[.slice none 0 0, .agg #[.slice A n c, .int .i64 at_], .int .i64 1]) (by simp [results, Try.results14, go_sem, d0, d1]) rfl ?_
      exact getBytes_none HL.out HF.out (by decide) ((hb'.setCell (by simp) _).setCell (by simp) _).drew
  · have h01 : 0 ≤ at_ ∧ at_ ≤ (n : Int) := by simpa [stB] using hst
    obtain ⟨h0, h1⟩ := h01
    obtain ⟨p, rfl⟩ := Int.eq_ofNat_of_zero_le h0
    have HT := Lib.hid hst
    by_cases hk : k < 0
    · have HF := Lib.hid (show tkE p k n = 1 by simp [tkE, hk])
      clear hst
      go_enter Try.func14, Try.ntmps14
      go_wp2_with fail
      refine bad_any.mono ?_
      rintro e w1 ⟨rfl, hb1⟩
      rw [HT.out]
      obtain ⟨k1, k2, hb', s1⟩ := two_boxes hb1
      have c0 := k1.cell 0
      have c1 := k1.cell 1
      have d0 := k2.cell 0
      have d1 := k2.cell 1
      have z0 := k2.frozen 0
      have z1 := k2.frozen 1
      go_wp2
      go_region
      all_goals
        go_wp2
        refine bodyPost_ret (v := .tuple #[.slice none 0 0, .agg #[.slice A n c, .int .i64 p], .int .i64 1]) (by simp [results, Try.results14, go_sem, d0, d1]) rfl ?_
        exact getBytes_none HL.out HF.out (by decide) ((hb'.setCell (by simp) _).setCell (by simp) _).drew
    · obtain ⟨q, rfl⟩ := Int.eq_ofNat_of_zero_le (show 0 ≤ k by omega)
      by_cases hsh : (n : Int) - p < q
      · have HF := Lib.hid (show tkE p q n = 5 by unfold tkE; rw [if_neg (not_bad hst (by omega)), if_pos hsh])
        clear hst
        go_enter Try.func14, Try.ntmps14
        go_wp2_with fail
        refine bad_any.mono ?_
        rintro e w1 ⟨rfl, hb1⟩
        rw [HT.out]
        obtain ⟨k1, k2, hb', s1⟩ := two_boxes hb1
        have c0 := k1.cell 0
        have c1 := k1.cell 1
        have d0 := k2.cell 0
        have d1 := k2.cell 1
        have z0 := k2.frozen 0
        have z1 := k2.frozen 1
        go_wp2
        go_region
        all_goals
          go_wp2
          refine bodyPost_ret (v := .tuple #[.slice none 0 0, .agg #[.slice A n c, .int .i64 p], .int .i64 5]) (by simp [results, Try.results14, go_sem, d0, d1]) rfl ?_
          exact getBytes_none HL.out HF.out (by decide) ((hb'.setCell (by simp) _).setCell (by simp) _).drew
      · have HF := Lib.hid (show tkE p q n = 0 by unfold tkE; rw [if_neg (not_bad hst (by omega)), if_neg hsh])
        clear hst hk
        have hpq : (p : Int) + (q : Int) ≤ (n : Int) := by omega
        have h1 : q ≤ maxLen := by unfold maxLen; omega
        have h2 : q * 1 ≤ 140737488355328 := by omega
        have HW := Lib.hid (show IntKind.i64.wrap ((p : Int) + (q : Int)) = (p : Int) + (q : Int) from IntWalk.i64_in _ (by omega))
        have HX := Lib.hid (show ((p : Int) + (q : Int)).toNat = p + q by omega)
        have HQ0 : Hid (c = p → q = 0) := Lib.hid (by omega)
        obtain ⟨L, hL⟩ : ∃ L, (l.drop p).take q = L := ⟨_, rfl⟩
        have HZ := Lib.hid (show L = tkL l p q by rw [← hL]; unfold tkL; rw [if_pos (by rw [HL.out]; exact HF.out)]; simp)
        have HSl : Hid ((c = p ∧ Rd w B 1 A 0 (L.map bv)) ∨ (c ≠ p ∧ Rd w B 1 (A.map (fun x => x.add p)) q (L.map bv))) := by
          have hc := h.cut (i := p) (j := p + q) (cap := c) (by omega) (by omega) hnc
          rw [show p + q - p = q by omega] at hc
          refine Lib.hid ?_
          by_cases hcp : c = p
          · refine .inl ⟨hcp, ?_⟩
            have hq0 : q = 0 := by omega
            rw [if_pos hcp] at hc
            rw [hq0] at hc
            rw [← hL, hq0]
            simpa using hc
          · refine .inr ⟨hcp, ?_⟩
            rw [if_neg hcp] at hc
            rw [← hL]
            simpa [List.map_drop, List.map_take] using hc
        clear hL
        go_enter Try.func14, Try.ntmps14
        go_wp2_with fail
        refine bad_any.mono ?_
        rintro e w1 ⟨rfl, hb1⟩
        rw [HT.out]
        obtain ⟨k1, k2, hb', s1⟩ := two_boxes hb1
        have c0 := k1.cell 0
        have c1 := k1.cell 1
        have hI : GbS w A n c p q [] w1 := ⟨hb', k1, _, _, k2⟩
        go_wp2_with fail
        refine wp_region_phases (S := GbS w A n c p q) (E := fun W W' => Keep (fun i => i = w.heap.size + 1) W W') [19] [(1, Is (.int .i64 q)), (2, Is (.pointer (some ⟨w.heap.size, 0, none⟩))), (5, Is (.pointer (some ⟨w.heap.size + 1, 0, none⟩)))] [(23, GbMade (w.heap.size + 1)), (24, Is (.pointer (some ⟨w.heap.size, 0, none⟩))), (25, Is (.slice A n c)), (26, Is (.pointer (some ⟨w.heap.size, 1, none⟩))), (27, Is (.int .i64 p)), (28, Is (.pointer (some ⟨w.heap.size, 1, none⟩))), (29, Is (.int .i64 p)), (30, Is (.int .i64 q)), (31, Is (.int .i64 ((p : Int) + (q : Int)))), (32, GbSl w B q L), (33, GbOwn (w.heap.size + 1) q L), (34, Is (.pointer (some ⟨w.heap.size, 0, none⟩))), (35, Is (.slice A n c)), (36, Is (.pointer (some ⟨w.heap.size, 1, none⟩))), (37, Is (.int .i64 p)), (38, Is (.int .i64 q)), (39, Is (.int .i64 ((p : Int) + (q : Int)))), (40, Is (.agg #[.slice A n c, .int .i64 ((p : Int) + (q : Int))])), (4, GbOwn (w.heap.size + 1) q L), (6, Is (.int .i64 0))]
          [.op [] none, .op [2] none, .op [24] none, .op [2] none, .op [26] none, .op [2] none, .op [28] none, .op [1] none, .op [29, 30] none, .op [25, 27, 31] none, .op [23, 32] none, .op [2] none, .op [34] none, .op [2] none, .op [36] none, .op [1] none, .op [37, 38] none, .op [35, 39] none, .op [33] none, .phase 0 [5, 40] [], .op [] none] (by as_aux_lemma => kernel_rfl) ?_ ?_ ?_ ?_ ?_ ⟨stable_is _ _, stable_is _ _, stable_is _ _, gb_made, stable_is _ _, stable_is _ _, stable_is _ _, stable_is _ _, stable_is _ _, stable_is _ _, stable_is _ _, stable_is _ _, gb_sl, gb_own, stable_is _ _, stable_is _ _, stable_is _ _, stable_is _ _, stable_is _ _, stable_is _ _, stable_is _ _, gb_own, stable_is _ _, trivial⟩ ?_ (GbS.below hI (Below.refl _ _).drew) ?_ ?_
        · as_aux_lemma => kernel_rfl
        · as_aux_lemma => kernel_rfl
        · as_aux_lemma => kernel_rfl
        · as_aux_lemma => kernel_rfl
        · as_aux_lemma => kernel_rfl
        · exact ⟨rfl, rfl, rfl, trivial⟩
        · refine ⟨?_, ?_, ?_, ?_, ?_, ?_, ?_, ?_, ?_, ?_, ?_, ?_, ?_, ?_, ?_, ?_, ?_, ?_, ?_, ?_, ?_, trivial⟩
          · as_aux_lemma =>
              intro vals a W hS hL
              clear hL
              have hsz := GbS.size hS
              go_simp
              have hb : Below W.heap.size W (W.alloc (.cells #[] 5)) := (Below.refl _ _).alloc (Nat.le_refl _) _
              exact ⟨⟨fun d hd => by injection hd with hd; subst hd; exact ⟨_, rfl, World.ownsRow_made W #[] 0 hsz (by simp [maxLen]) (by simp)⟩, fun h => by cases h⟩, GbS.below hS hb, Keep.of_below hb fun q hq h => by omega⟩
          · as_aux_lemma =>
              intro vals a W hS hL
              have e2 : a.tmps.getD 2 undef = .pointer (some ⟨w.heap.size, 0, none⟩) := hL.1
              clear hL
              go_simp
              exact ⟨⟨fun d hd => by injection hd with hd; subst hd; rfl, fun h => by cases h⟩, hS, Keep.refl _ _⟩
          · as_aux_lemma =>
              intro vals a W hS hL
              have e24 : a.tmps.getD 24 undef = .pointer (some ⟨w.heap.size, 0, none⟩) := hL.1
              clear hL
              have hbx := GbS.box hS
              have f0 : W.cell? ⟨w.heap.size, 0, none⟩ = some (.slice A n c) := hbx.cell 0
              have f1 : W.cell? ⟨w.heap.size, 1, none⟩ = some (.int .i64 p) := hbx.cell 1
              go_simp
              exact ⟨⟨fun d hd => by injection hd with hd; subst hd; rfl, fun h => by cases h⟩, hS, Keep.refl _ _⟩
          · as_aux_lemma =>
              intro vals a W hS hL
              have e2 : a.tmps.getD 2 undef = .pointer (some ⟨w.heap.size, 0, none⟩) := hL.1
              clear hL
              go_simp
              exact ⟨⟨fun d hd => by injection hd with hd; subst hd; rfl, fun h => by cases h⟩, hS, Keep.refl _ _⟩
          · as_aux_lemma =>
              intro vals a W hS hL
              have e26 : a.tmps.getD 26 undef = .pointer (some ⟨w.heap.size, 1, none⟩) := hL.1
              clear hL
              have hbx := GbS.box hS
              have f0 : W.cell? ⟨w.heap.size, 0, none⟩ = some (.slice A n c) := hbx.cell 0
              have f1 : W.cell? ⟨w.heap.size, 1, none⟩ = some (.int .i64 p) := hbx.cell 1
              go_simp
              exact ⟨⟨fun d hd => by injection hd with hd; subst hd; rfl, fun h => by cases h⟩, hS, Keep.refl _ _⟩
          · as_aux_lemma =>
              intro vals a W hS hL
              have e2 : a.tmps.getD 2 undef = .pointer (some ⟨w.heap.size, 0, none⟩) := hL.1
              clear hL
              go_simp
              exact ⟨⟨fun d hd => by injection hd with hd; subst hd; rfl, fun h => by cases h⟩, hS, Keep.refl _ _⟩
          · as_aux_lemma =>
              intro vals a W hS hL
              have e28 : a.tmps.getD 28 undef = .pointer (some ⟨w.heap.size, 1, none⟩) := hL.1
              clear hL
              have hbx := GbS.box hS
              have f0 : W.cell? ⟨w.heap.size, 0, none⟩ = some (.slice A n c) := hbx.cell 0
              have f1 : W.cell? ⟨w.heap.size, 1, none⟩ = some (.int .i64 p) := hbx.cell 1
              go_simp
              exact ⟨⟨fun d hd => by injection hd with hd; subst hd; rfl, fun h => by cases h⟩, hS, Keep.refl _ _⟩
          · as_aux_lemma =>
              intro vals a W hS hL
              have e1 : a.tmps.getD 1 undef = .int .i64 q := hL.1
              clear hL
              go_simp
              exact ⟨⟨fun d hd => by injection hd with hd; subst hd; rfl, fun h => by cases h⟩, hS, Keep.refl _ _⟩
          · as_aux_lemma =>
              intro vals a W hS hL
              have e29 : a.tmps.getD 29 undef = .int .i64 p := hL.1
              have e30 : a.tmps.getD 30 undef = .int .i64 q := hL.2.1
              clear hL
              have hw := HW.out
              go_simp
              exact ⟨⟨fun d hd => by injection hd with hd; subst hd; rfl, fun h => by cases h⟩, hS, Keep.refl _ _⟩
          · as_aux_lemma =>
              intro vals a W hS hL
              have e25 : a.tmps.getD 25 undef = .slice A n c := hL.1
              have e27 : a.tmps.getD 27 undef = .int .i64 p := hL.2.1
              have e31 : a.tmps.getD 31 undef = .int .i64 ((p : Int) + (q : Int)) := hL.2.2.1
              clear hL
              have hx := HX.out
              have hpc : (p : Int) + (q : Int) ≤ (c : Int) := by have := hpq; omega
              have hp1 : 0 ≤ (p : Int) + (q : Int) := by omega
              have hp2 : (p : Int) ≤ (p : Int) + (q : Int) := by omega
              rcases HSl.out with ⟨hcp, hr⟩ | ⟨hcp, hr⟩
              · have hq0 := HQ0.out hcp
                subst hq0
                subst hcp
                go_simp
                exact ⟨⟨fun d hd => by injection hd with hd; subst hd; exact ⟨_, _, rfl, hr⟩, fun h => by cases h⟩, hS, Keep.refl _ _⟩
              · go_simp
                exact ⟨⟨fun d hd => by injection hd with hd; subst hd; exact ⟨_, _, rfl, hr⟩, fun h => by cases h⟩, hS, Keep.refl _ _⟩
          · as_aux_lemma =>
              intro vals a W hS hL
              have e23 := hL.1
              have e32 := hL.2.1
              clear hL
              have hsz := GbS.size hS
              have hbel := GbS.bel hS
              obtain ⟨g, e23, h23⟩ := e23
              obtain ⟨A1, c1, e32, h32⟩ := e32
              refine lands_app0 bytesRow (.tmp 23) (.tmp 32) rfl e23 e32 h23 (h32.belowMono hbel hB) (bv_one L) h1 h2 (by omega) fun b k W' ho hb => ?_
              exact ⟨⟨fun d hd => by injection hd with hd; subst hd; exact ⟨_, _, rfl, ho⟩, fun h => by cases h⟩, GbS.below hS hb, Keep.of_below hb fun q hq h => by omega⟩
          · as_aux_lemma =>
              intro vals a W hS hL
              have e2 : a.tmps.getD 2 undef = .pointer (some ⟨w.heap.size, 0, none⟩) := hL.1
              clear hL
              go_simp
              exact ⟨⟨fun d hd => by injection hd with hd; subst hd; rfl, fun h => by cases h⟩, hS, Keep.refl _ _⟩
          · as_aux_lemma =>
              intro vals a W hS hL
              have e34 : a.tmps.getD 34 undef = .pointer (some ⟨w.heap.size, 0, none⟩) := hL.1
              clear hL
              have hbx := GbS.box hS
              have f0 : W.cell? ⟨w.heap.size, 0, none⟩ = some (.slice A n c) := hbx.cell 0
              have f1 : W.cell? ⟨w.heap.size, 1, none⟩ = some (.int .i64 p) := hbx.cell 1
              go_simp
              exact ⟨⟨fun d hd => by injection hd with hd; subst hd; rfl, fun h => by cases h⟩, hS, Keep.refl _ _⟩
          · as_aux_lemma =>
              intro vals a W hS hL
              have e2 : a.tmps.getD 2 undef = .pointer (some ⟨w.heap.size, 0, none⟩) := hL.1
              clear hL
              go_simp
              exact ⟨⟨fun d hd => by injection hd with hd; subst hd; rfl, fun h => by cases h⟩, hS, Keep.refl _ _⟩
          · as_aux_lemma =>
              intro vals a W hS hL
              have e36 : a.tmps.getD 36 undef = .pointer (some ⟨w.heap.size, 1, none⟩) := hL.1
              clear hL
              have hbx := GbS.box hS
              have f0 : W.cell? ⟨w.heap.size, 0, none⟩ = some (.slice A n c) := hbx.cell 0
              have f1 : W.cell? ⟨w.heap.size, 1, none⟩ = some (.int .i64 p) := hbx.cell 1
              go_simp
              exact ⟨⟨fun d hd => by injection hd with hd; subst hd; rfl, fun h => by cases h⟩, hS, Keep.refl _ _⟩
          · as_aux_lemma =>
              intro vals a W hS hL
              have e1 : a.tmps.getD 1 undef = .int .i64 q := hL.1
              clear hL
              go_simp
              exact ⟨⟨fun d hd => by injection hd with hd; subst hd; rfl, fun h => by cases h⟩, hS, Keep.refl _ _⟩
          · as_aux_lemma =>
              intro vals a W hS hL
              have e37 : a.tmps.getD 37 undef = .int .i64 p := hL.1
              have e38 : a.tmps.getD 38 undef = .int .i64 q := hL.2.1
              clear hL
              have hw := HW.out
              go_simp
              exact ⟨⟨fun d hd => by injection hd with hd; subst hd; rfl, fun h => by cases h⟩, hS, Keep.refl _ _⟩
          · as_aux_lemma =>
              intro vals a W hS hL
              have e35 : a.tmps.getD 35 undef = .slice A n c := hL.1
              have e39 : a.tmps.getD 39 undef = .int .i64 ((p : Int) + (q : Int)) := hL.2.1
              clear hL
              rw [Array.getD_eq_getD_getElem?] at e35 e39
              go_simp
              exact ⟨⟨fun d hd => by injection hd with hd; subst hd; rfl, fun h => by cases h⟩, hS, Keep.refl _ _⟩
          · as_aux_lemma =>
              intro vals a W hS hL
              have e33 := hL.1
              clear hL
              obtain ⟨b, k, e33, ho⟩ := e33
              go_simp
              exact ⟨⟨fun d hd => by injection hd with hd; subst hd; exact ⟨_, _, rfl, ho⟩, fun h => by cases h⟩, hS, Keep.refl _ _⟩
          · as_aux_lemma =>
              intro a W vals hv hS hL hp
              have e5 : a.tmps.getD 5 undef = .pointer (some ⟨w.heap.size + 1, 0, none⟩) := hL.1
              have e40 : a.tmps.getD 40 undef = .agg #[.slice A n c, .int .i64 ((p : Int) + (q : Int))] := hL.2.1
              clear hL
              match vals, hv, hS with
              | [], _, hS =>
                obtain ⟨u0, u1, hk⟩ := hS.2.2
                have q0 : W.cell? ⟨w.heap.size + 1, 0, none⟩ = some u0 := hk.cell 0
                have q1 : W.cell? ⟨w.heap.size + 1, 1, none⟩ = some u1 := hk.cell 1
                have z0 := hk.frozen 0
                have z1 := hk.frozen 1
                obtain ⟨hfin, hE⟩ := GbS.stored hS hk
                rw [Array.getD_eq_getD_getElem?] at e40
                clear hS hk
                go_simp
                exact ⟨hfin, trivial, hE⟩
          · as_aux_lemma =>
              intro vals a W hS hL
              clear hL
              go_simp
              exact ⟨⟨fun d hd => by injection hd with hd; subst hd; rfl, fun h => by cases h⟩, hS, Keep.refl _ _⟩
        · intro a W vals hd hsz hT hF hv _ hS
          obtain ⟨u, rfl⟩ : ∃ u, vals = [u] := by
            match vals, hv with
            | [u], _ => exact ⟨u, rfl⟩
          obtain ⟨b, k, e4, ho⟩ : GbOwn (w.heap.size + 1) q L (a.tmps.getD 4 undef) W := hT 4 (by simp)
          have e5 : a.tmps.getD 5 undef = .pointer (some ⟨w.heap.size + 1, 0, none⟩) := hT 5 (by simp)
          have e6 : a.tmps.getD 6 undef = .int .i64 0 := hT 6 (by simp)
          obtain ⟨h1, _, hk⟩ := hS
          have r0 : W.cell? ⟨w.heap.size + 1, 0, none⟩ = some (.slice A n c) := hk.cell 0
          have r1 : W.cell? ⟨w.heap.size + 1, 1, none⟩ = some (.int .i64 ((p : Int) + (q : Int))) := hk.cell 1
          go_wp2
          refine bodyPost_ret (v := .tuple #[.slice (some b) q k, .agg #[.slice A n c, .int .i64 ((p : Int) + (q : Int))], .int .i64 0]) ?_ hd (getBytes_some HL.out HF.out HZ.out rfl ho (by omega) h1)
          rw [Array.getD_eq_getD_getElem?] at e4 e5 e6
          simp [results, Try.results14, go_sem, e4, e5, e6, r0, r1]
end Go.Proofs.Ytlfnmcagpokchaa
