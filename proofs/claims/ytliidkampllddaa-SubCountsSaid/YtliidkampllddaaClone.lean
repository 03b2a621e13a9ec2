/- slices.Clone, sub.clone by their contracts: a copy of the record at another place, in memory of its own. Condition: its slices read as lists. -/
import Derived.Test.YtliidkampllddaaSub
import Derived.Test.YtliidkampllddaaTo
namespace Go.Proofs.Ytliidkampllddaa
open Go.RowKit

theorem intsClone_any {w : World} {B n c : Nat} {A : Option Addr} {l : List Int} (h : Rd w B 1 A n (l.map iv)) (hB : B ≤ w.heap.size) (hn : n * 8 ≤ 140737488355328) :
    Calls Try.prog 29 #[.slice A n c] w fun e w' => ∃ v', e = .returned v' ∧ w'.ownsRow w.heap.size 3 1 v' n (l.map iv) ∧ Below w.heap.size w w' := by
  have he := fun W => Lib.run_eql_slice_nil (P := Try.prog) W 47 3 A n c 0 0 Try.underlying47
  cases A with
  | none =>
    have hn0 : n = 0 := by
      rcases Nat.eq_zero_or_pos n with h0 | h0
      · exact h0
      · obtain ⟨a, ha, _⟩ := h.at_ h0; cases ha
    subst hn0
    have hl : l = [] := List.eq_nil_of_length_eq_zero h.ilen
    subst hl
    go_enter Try.func29, Try.ntmps29
    go_wp2
    go_ret
    exact ⟨_, rfl, World.ownsRow_nil _ _ _ _, Below.refl _ _⟩
  | some a =>
    go_enter Try.func29, Try.ntmps29
    go_wp2_with (at_builtin; refine wpList_app intsRow rfl (.tmp 5) (.tmp 6) rfl rfl rfl (World.ownsRow_made (base := w.heap.size) (size := 1) w #[] 0 (Nat.le_refl _) (by simp [maxLen]) (by simp)) (h.belowMono ((Below.refl w.heap.size w).alloc (Nat.le_refl _) _) hB) (iv_one _) ?_ ?_ ?_ ?_)
    · unfold maxLen; omega
    · omega
    · simp
    · intro v' w' ho _ hbel
      go_wp2
      go_ret
      exact ⟨v', rfl, by simpa using ho, ((Below.refl _ _).alloc (Nat.le_refl _) _).trans hbel⟩

/-- A row of the call's own. -/
def ClOwn (R : Nat) (e : TypeId) (n : Nat) (xs : List Value) : Value → World → Prop := fun v W => ∃ b c, v = .slice b n c ∧ W.ownsRow (R + 1) e 1 (.slice b n c) n xs
def ClRec (R : Nat) (t at_ : Int) (dn cn : Nat) (data cuts : List Value) : Value → World → Prop := fun v W => ∃ b c b' c', v = .agg #[.int .i64 t, .slice b dn c, .slice b' cn c', .int .i64 at_] ∧
  W.ownsRow (R + 1) 5 1 (.slice b dn c) dn data ∧ W.ownsRow (R + 1) 3 1 (.slice b' cn c') cn cuts
/-- The result lies there. -/
def ClGood (R : Nat) (t at_ : Int) (dn cn : Nat) (data cuts : List Value) (W : World) : Prop := ∃ b c b' c', Bk W R 49 #[.int .i64 t, .slice b dn c, .slice b' cn c', .int .i64 at_] ∧
  W.ownsRow (R + 1) 5 1 (.slice b dn c) dn data ∧ W.ownsRow (R + 1) 3 1 (.slice b' cn c') cn cuts

/-- One step: but for the result's block all stays; that one stays or is good. -/
def ClE (R : Nat) (t at_ : Int) (dn cn : Nat) (data cuts : List Value) (W W' : World) : Prop := Keep (fun i => i = R) W W' ∧ (W'.heap[R]? = W.heap[R]? ∨ ClGood R t at_ dn cn data cuts W')

structure ClS (w : World) (t at_ : Int) (D C : Option Addr) (dn dc cn cc : Nat) (W : World) : Prop where
  box : Bk W w.heap.size 49 #[.int .i64 t, .slice D dn dc, .slice C cn cc, .int .i64 at_]
  bel : Below w.heap.size w W
  res : ∃ u0 u1 u2 u3, Bk W (w.heap.size + 1) 49 #[u0, u1, u2, u3]

section
variable {w : World} {R : Nat} {t at_ : Int} {D C : Option Addr} {dn dc cn cc : Nat} {data cuts : List Value} {W W' : World}
theorem ckeep_own {e : TypeId} {v : Value} {n : Nat} {xs : List Value} (h : W.ownsRow (R + 1) e 1 v n xs) (hk : Keep (fun i => i = R) W W') : W'.ownsRow (R + 1) e 1 v n xs :=
  hk.own h fun i hi e => by have := (h.lt i hi).1; omega
theorem ClE.of_below (hR : R < W.heap.size) (hb : Below W.heap.size W W') : ClE R t at_ dn cn data cuts W W' := ⟨Keep.of_below hb fun i hi h => by omega, .inl (hb.block R hR)⟩
theorem ClE.refl : ClE R t at_ dn cn data cuts W W := ⟨Keep.refl _ _, .inl rfl⟩
theorem cstab_own {e : TypeId} {n : Nat} {xs : List Value} : Stable (ClE R t at_ dn cn data cuts) (ClOwn R e n xs) := fun _ _ _ hE h => by
  obtain ⟨b, c, rfl, ho⟩ := h
  exact ⟨b, c, rfl, ckeep_own ho hE.1⟩
theorem cstab_rec : Stable (ClE R t at_ dn cn data cuts) (ClRec R t at_ dn cn data cuts) := fun _ _ _ hE h => by
  obtain ⟨b, c, b', c', rfl, o1, o2⟩ := h
  exact ⟨b, c, b', c', rfl, ckeep_own o1 hE.1, ckeep_own o2 hE.1⟩
theorem cstab_good : Stable (ClE R t at_ dn cn data cuts) (fun _ => ClGood R t at_ dn cn data cuts) := fun _ _ _ hE h => by
  rcases hE.2 with hh | hh
  · obtain ⟨b, c, b', c', k, o1, o2⟩ := h
    exact ⟨b, c, b', c', by unfold Bk at *; rw [hh, k], ckeep_own o1 hE.1, ckeep_own o2 hE.1⟩
  · exact hh
theorem ClS.size (h : ClS w t at_ D C dn dc cn cc W) : w.heap.size + 2 ≤ W.heap.size := by
  obtain ⟨_, _, _, _, k⟩ := h.res
  exact k.lt
theorem ClS.below (h : ClS w t at_ D C dn dc cn cc W) (hb : Below W.heap.size W W') : ClS w t at_ D C dn dc cn cc W' := by
  obtain ⟨u0, u1, u2, u3, k⟩ := h.res
  exact ⟨h.box.below hb h.box.lt, h.bel.trans (hb.mono h.bel.size), u0, u1, u2, u3, k.below hb k.lt⟩
theorem ClS.s (h : ClS w t at_ D C dn dc cn cc W) : W.cell? ⟨w.heap.size, 0, none⟩ = some (.int .i64 t) ∧ W.cell? ⟨w.heap.size, 1, none⟩ = some (.slice D dn dc) ∧ W.cell? ⟨w.heap.size, 2, none⟩ = some (.slice C cn cc) ∧
    W.cell? ⟨w.heap.size, 3, none⟩ = some (.int .i64 at_) := ⟨h.box.cell 0, h.box.cell 1, h.box.cell 2, h.box.cell 3⟩
theorem ClS.e {at1 : Int} (h : ClS w t at1 D C dn dc cn cc W) (hb : Below W.heap.size W W') : ClE (w.heap.size + 1) t at_ dn cn data cuts W W' := ClE.of_below (by have := h.size; omega) hb
end

/-- What is foretold: of the slots that are there, of those that are written. -/
def cl0 (w : World) (at_ : Int) : List (Nat × (Value → World → Prop)) := [(1, Is (.int .i64 at_)), (2, Is (.pointer (some ⟨w.heap.size, 0, none⟩))), (4, Is (.pointer (some ⟨w.heap.size + 1, 0, none⟩)))]
def cl1 (w : World) (t at_ : Int) (D C : Option Addr) (dn dc cn cc : Nat) (data cuts : List Value) : List (Nat × (Value → World → Prop)) :=
  [(5, Is (.pointer (some ⟨w.heap.size, 0, none⟩))), (6, Is (.int .i64 t)), (7, Is (.pointer (some ⟨w.heap.size, 1, none⟩))), (8, Is (.slice D dn dc)), (9, ClOwn (w.heap.size + 1) 5 dn data),
   (10, Is (.pointer (some ⟨w.heap.size, 2, none⟩))), (11, Is (.slice C cn cc)), (12, ClOwn (w.heap.size + 1) 3 cn cuts), (13, Is (.int .i64 at_)),
   (14, ClRec (w.heap.size + 1) t at_ dn cn data cuts), (25, fun _ => ClGood (w.heap.size + 1) t at_ dn cn data cuts)]
def clk : List (List Tmp × Option (Tmp × Bool)) := [([2], none), ([5], none), ([2], none), ([7], none), ([8], none), ([2], none), ([10], none), ([11], none), ([1], none), ([6, 9, 12, 13], none), ([4, 14], none)]

theorem clstab (w : World) (t at_ : Int) (D C : Option Addr) (dn dc cn cc : Nat) (data cuts : List Value) : StableAll (ClE (w.heap.size + 1) t at_ dn cn data cuts) (cl0 w at_ ++ cl1 w t at_ D C dn dc cn cc data cuts) :=
  ⟨stable_is _ _, stable_is _ _, stable_is _ _, stable_is _ _, stable_is _ _, stable_is _ _, stable_is _ _, cstab_own, stable_is _ _, stable_is _ _, cstab_own, stable_is _ _, cstab_rec, cstab_good, trivial⟩

set_option maxHeartbeats 4000000 in
theorem subClone_any {w : World} {B : Nat} {t at0 at_ : Int} {data : List UInt8} {cuts : List Int} {D C : Option Addr} {dn cn dc cc : Nat} (hd : Rd w B 1 D dn (data.map bv)) (hc : Rd w B 1 C cn (cuts.map iv)) (hB : B ≤ w.heap.size)
    (hdn : dn ≤ 140737488355328) (hcn : cn * 8 ≤ 140737488355328) :
    Calls Try.prog 20 #[.agg #[.int .i64 t, .slice D dn dc, .slice C cn cc, .int .i64 at0], .int .i64 at_] w fun e w' =>
      ∃ dv cv, e = .returned (.agg #[.int .i64 t, dv, cv, .int .i64 at_]) ∧ w'.ownsRow w.heap.size 5 1 dv dn (data.map bv) ∧
        w'.ownsRow w.heap.size 3 1 cv cn (cuts.map iv) ∧ Below w.heap.size w w' := by
  go_enter Try.func20, Try.ntmps20
  go_wp2_with fail
  have I0 : ClS w t at0 D C dn dc cn cc ((w.alloc (.cells #[.int .i64 t, .slice D dn dc, .slice C cn cc, .int .i64 at0] 49)).alloc (.cells #[.int .i64 0, .slice none 0 0, .slice none 0 0, .int .i64 0] 49)) :=
    ⟨(Bk.new w _ _).alloc _, ((Below.refl _ _).alloc (Nat.le_refl _) _).alloc (by simp) _, _, _, _, _, by simpa using Bk.new (w.alloc _) 49 _⟩
  refine wp_region_tab (S := ClS w t at0 D C dn dc cn cc) (E := ClE (w.heap.size + 1) t at_ dn cn (data.map bv) (cuts.map iv)) (cl0 w at_) (cl1 w t at_ D C dn dc cn cc (data.map bv) (cuts.map iv)) clk
    (by as_aux_lemma => kernel_rfl) ?_ ?_ ?_ (clstab ..) ?_ (I0.below (Below.refl _ _).drew) ?_ ?_
  · as_aux_lemma => kernel_rfl
  · as_aux_lemma => kernel_rfl
  · as_aux_lemma => kernel_rfl
  · exact ⟨rfl, rfl, by simp [Is], trivial⟩
  · clear I0
    refine ⟨?_, ?_, ?_, ?_, ?_, ?_, ?_, ?_, ?_, ?_, ?_, trivial⟩
    · as_aux_lemma =>
        intro a W hS hL
        have e2 : a.tmps.getD 2 undef = .pointer (some ⟨w.heap.size, 0, none⟩) := hL.1
        clear hL
        go_simp
        exact ⟨⟨fun d hd => by injection hd with hd; subst hd; rfl, fun h => by cases h⟩, hS, ClE.refl⟩
    · as_aux_lemma =>
        intro a W hS hL
        have e5 : a.tmps.getD 5 undef = .pointer (some ⟨w.heap.size, 0, none⟩) := hL.1
        clear hL
        obtain ⟨f0, f1, f2, f3⟩ := hS.s
        go_simp
        exact ⟨⟨fun d hd => by injection hd with hd; subst hd; rfl, fun h => by cases h⟩, hS, ClE.refl⟩
    · as_aux_lemma =>
        intro a W hS hL
        have e2 : a.tmps.getD 2 undef = .pointer (some ⟨w.heap.size, 0, none⟩) := hL.1
        clear hL
        go_simp
        exact ⟨⟨fun d hd => by injection hd with hd; subst hd; rfl, fun h => by cases h⟩, hS, ClE.refl⟩
    · as_aux_lemma =>
        intro a W hS hL
        have e7 : a.tmps.getD 7 undef = .pointer (some ⟨w.heap.size, 1, none⟩) := hL.1
        clear hL
        obtain ⟨f0, f1, f2, f3⟩ := hS.s
        go_simp
        exact ⟨⟨fun d hd => by injection hd with hd; subst hd; rfl, fun h => by cases h⟩, hS, ClE.refl⟩
    · as_aux_lemma =>
        intro a W hS hL
        have e8 : a.tmps.getD 8 undef = .slice D dn dc := hL.1
        clear hL
        have hsz := hS.size
        go_simp
        refine (clone_any (hd.belowMono hS.bel hB) (Nat.le_trans hB hS.bel.size) hdn).mono ?_
        rintro e W' ⟨v', rfl, ho, hb⟩
        obtain ⟨b, c, rfl, _, _, _⟩ := own_form ho
        exact ⟨_, rfl, ⟨fun d hd => by injection hd with hd; subst hd; exact ⟨b, c, rfl, own_mono ho (by omega)⟩, fun h => by cases h⟩, hS.below hb, hS.e hb⟩
    · as_aux_lemma =>
        intro a W hS hL
        have e2 : a.tmps.getD 2 undef = .pointer (some ⟨w.heap.size, 0, none⟩) := hL.1
        clear hL
        go_simp
        exact ⟨⟨fun d hd => by injection hd with hd; subst hd; rfl, fun h => by cases h⟩, hS, ClE.refl⟩
    · as_aux_lemma =>
        intro a W hS hL
        have e10 : a.tmps.getD 10 undef = .pointer (some ⟨w.heap.size, 2, none⟩) := hL.1
        clear hL
        obtain ⟨f0, f1, f2, f3⟩ := hS.s
        go_simp
        exact ⟨⟨fun d hd => by injection hd with hd; subst hd; rfl, fun h => by cases h⟩, hS, ClE.refl⟩
    · as_aux_lemma =>
        intro a W hS hL
        have e11 : a.tmps.getD 11 undef = .slice C cn cc := hL.1
        clear hL
        have hsz := hS.size
        go_simp
        refine (intsClone_any (hc.belowMono hS.bel hB) (Nat.le_trans hB hS.bel.size) hcn).mono ?_
        rintro e W' ⟨v', rfl, ho, hb⟩
        obtain ⟨b, c, rfl, _, _, _⟩ := own_form ho
        exact ⟨_, rfl, ⟨fun d hd => by injection hd with hd; subst hd; exact ⟨b, c, rfl, own_mono ho (by omega)⟩, fun h => by cases h⟩, hS.below hb, hS.e hb⟩
    · as_aux_lemma =>
        intro a W hS hL
        have e1 : a.tmps.getD 1 undef = .int .i64 at_ := hL.1
        clear hL
        go_simp
        exact ⟨⟨fun d hd => by injection hd with hd; subst hd; rfl, fun h => by cases h⟩, hS, ClE.refl⟩
    · as_aux_lemma =>
        intro a W hS hL
        have e6 : a.tmps.getD 6 undef = .int .i64 t := hL.1
        obtain ⟨b, c, e9, h9⟩ := hL.2.1
        obtain ⟨b', c', e12, h12⟩ := hL.2.2.1
        have e13 : a.tmps.getD 13 undef = .int .i64 at_ := hL.2.2.2.1
        clear hL
        rw [Array.getD_eq_getD_getElem?] at e6 e9 e12 e13
        go_simp
        exact ⟨⟨fun d hd => by injection hd with hd; subst hd; exact ⟨b, c, b', c', rfl, h9, h12⟩, fun h => by cases h⟩, hS, ClE.refl⟩
    · as_aux_lemma =>
        intro a W hS hL
        have e4 : a.tmps.getD 4 undef = .pointer (some ⟨w.heap.size + 1, 0, none⟩) := hL.1
        obtain ⟨b, c, b', c', e14, h8, h12⟩ := hL.2.1
        clear hL
        obtain ⟨u0, u1, u2, u3, k⟩ := hS.res
        have r0 : W.cell? ⟨w.heap.size + 1, 0, none⟩ = some u0 := k.cell 0
        have r1 : W.cell? ⟨w.heap.size + 1, 1, none⟩ = some u1 := k.cell 1
        have r2 : W.cell? ⟨w.heap.size + 1, 2, none⟩ = some u2 := k.cell 2
        have r3 : W.cell? ⟨w.heap.size + 1, 3, none⟩ = some u3 := k.cell 3
        have z0 := k.frozen 0
        have z1 := k.frozen 1
        have z2 := k.frozen 2
        have z3 := k.frozen 3
        rw [Array.getD_eq_getD_getElem?] at e14
        go_simp
        have kk : Keep (fun i => i = w.heap.size + 1) W ((((W.setCell ⟨w.heap.size + 1, 0, none⟩ (.int .i64 t)).setCell ⟨w.heap.size + 1, 1, none⟩ (.slice b dn c)).setCell ⟨w.heap.size + 1, 2, none⟩ (.slice b' cn c')).setCell ⟨w.heap.size + 1, 3, none⟩ (.int .i64 at_)) :=
          ((((Keep.refl (fun i => i = w.heap.size + 1) W).setCell (p := ⟨w.heap.size + 1, 0, none⟩) (fun _ => rfl) _).setCell (p := ⟨w.heap.size + 1, 1, none⟩) (fun _ => rfl) _).setCell (p := ⟨w.heap.size + 1, 2, none⟩) (fun _ => rfl) _).setCell (p := ⟨w.heap.size + 1, 3, none⟩) (fun _ => rfl) _
        have kb := (((k.set_ 0 (.int .i64 t)).set_ 1 (.slice b dn c)).set_ 2 (.slice b' cn c')).set_ 3 (.int .i64 at_)
        generalize ((((W.setCell ⟨w.heap.size + 1, 0, none⟩ (.int .i64 t)).setCell ⟨w.heap.size + 1, 1, none⟩ (.slice b dn c)).setCell ⟨w.heap.size + 1, 2, none⟩ (.slice b' cn c')).setCell ⟨w.heap.size + 1, 3, none⟩ (.int .i64 at_)) = W' at *
        simp only [List.setIfInBounds_toArray, List.set_cons_zero, List.set_cons_succ] at kb
        have good : ClGood (w.heap.size + 1) t at_ dn cn (data.map bv) (cuts.map iv) W' := ⟨b, c, b', c', kb, ckeep_own h8 kk, ckeep_own h12 kk⟩
        exact ⟨⟨fun d hd => (nomatch hd), fun _ => good⟩, ⟨kk.bk hS.box (by omega), hS.bel.trans (kk.below hS.bel.size fun i hi => by omega), _, _, _, _, kb⟩, kk, .inr good⟩
  · intro a W hd hsz hT hF hS
    have e4 : a.tmps.getD 4 undef = .pointer (some ⟨w.heap.size + 1, 0, none⟩) := hT 4 (by simp)
    obtain ⟨b, c, b', c', k, q1, q2⟩ : ClGood (w.heap.size + 1) t at_ dn cn (data.map bv) (cuts.map iv) W := hF 10 _ rfl rfl
    have r0 : W.cell? ⟨w.heap.size + 1, 0, none⟩ = some (.int .i64 t) := k.cell 0
    have r1 : W.cell? ⟨w.heap.size + 1, 1, none⟩ = some (.slice b dn c) := k.cell 1
    have r2 : W.cell? ⟨w.heap.size + 1, 2, none⟩ = some (.slice b' cn c') := k.cell 2
    have r3 : W.cell? ⟨w.heap.size + 1, 3, none⟩ = some (.int .i64 at_) := k.cell 3
    go_wp2
    refine bodyPost_ret (v := .agg #[.int .i64 t, .slice b dn c, .slice b' cn c', .int .i64 at_]) ?_ hd ⟨_, _, rfl, own_mono q1 (by omega), own_mono q2 (by omega), hS.bel⟩
    rw [Array.getD_eq_getD_getElem?] at e4
    simp [results, Try.results20, go_sem, e4, r0, r1, r2, r3]
end Go.Proofs.Ytliidkampllddaa
