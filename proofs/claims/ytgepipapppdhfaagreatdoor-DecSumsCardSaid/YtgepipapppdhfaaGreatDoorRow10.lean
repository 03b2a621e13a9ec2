/- The reference's round by its contract. Condition: no more than five hundred digits, a thousand places. -/
import Derived.Test.YtgepipapppdhfaaGreatDoorRegI
namespace Go.Proofs.YtgepipapppdhfaaGreatDoor
open Go.RowKit

theorem Rd.dropN {w : World} {B n k : Nat} {a : Addr} {l : List Nat} (h : Rd w B 1 (some a) n (dcs l)) (hk : k ≤ n) : Rd w B 1 (some (a.add k)) (n - k) (dcs (l.drop k)) := by
  have hl := h.dlen
  refine ⟨by rw [dcs_len, List.length_drop]; omega, fun h0 => ?_⟩
  obtain ⟨a', ha, hb, hc⟩ := h.at_ (by omega)
  injection ha with ha
  subst ha
  refine ⟨_, rfl, by rw [add_block]; exact hb, fun j u hu => ?_⟩
  rw [add_add]
  refine hc (k + j) u ?_
  rw [← hu]
  simp [dcs, List.getElem?_drop]

/-- A number's row that is read, its box, and at the end another number in that box. -/
def S4 (w : World) (n : Nat) (bs : List (Nat × TypeId × Array Value)) (g : Nat) (b : Bool) (A : Option Addr) (m c : Nat) (L : List Nat) (V : Int) : List Value → World → Prop
  | [], W => SB w n ((g, 51, #[.bool b, .slice A m c]) :: bs) W ∧ Rd W W.heap.size 1 A m (dcs L)
  | _ :: _, W => ∃ b' A' m' c', BigN W (.agg #[.bool b', .slice A' m' c']) V ∧ SB w n ((g, 51, #[.bool b', .slice A' m' c']) :: bs) W
section
variable {w W W' : World} {n g m c : Nat} {bs : List (Nat × TypeId × Array Value)} {V : Int} {vals : List Value} {b : Bool} {A : Option Addr} {L : List Nat}
theorem S4.call (h : S4 w n bs g b A m c L V vals W) (hb : Below W.heap.size W W') : S4 w n bs g b A m c L V vals W' := by
  match vals, h with
  | [], h => exact ⟨SB.call h.1 hb, (h.2.below hb).mono hb.size⟩
  | _ :: _, ⟨b', A', m', c', h1, h2⟩ => exact ⟨b', A', m', c', h1.below hb, SB.call h2 hb⟩
theorem S4.bk (h : S4 w n bs g b A m c L V vals W) {x : Nat × TypeId × Array Value} (h1 : x ∈ bs) : Bk W x.1 x.2.1 x.2.2 := by
  match vals, h with
  | [], h => exact h.1.bk x (List.mem_cons_of_mem _ h1)
  | _ :: _, ⟨_, _, _, _, _, h⟩ => exact h.bk x (List.mem_cons_of_mem _ h1)
theorem S4.size (h : S4 w n bs g b A m c L V vals W) : w.heap.size + n ≤ W.heap.size := by
  match vals, h with
  | [], h => exact h.1.size
  | _ :: _, ⟨_, _, _, _, _, h⟩ => exact h.size
end
/-- A row of digits worth N; a number in such digits. -/
def FSum (N : Nat) : Value → World → Prop := fun v W => ∃ A m c L, v = .slice A m c ∧ m ≤ c ∧ c ≤ maxLen ∧ Digs L ∧ dval L = N ∧ Rd W W.heap.size 1 A m (dcs L)
def FSumB (b : Bool) (N : Nat) : Value → World → Prop := fun v W => ∃ L, Digs L ∧ dval L = N ∧ BigV W v b L
theorem st_sum {N : Nat} : Stable EI (FSum N) := fun v w w' hE h => by
  obtain ⟨A, m, c, L, h1, h2, h3, h4, h5, h6⟩ := h
  exact ⟨A, m, c, L, h1, h2, h3, h4, h5, h6.ei hE⟩
theorem st_sumb {b : Bool} {N : Nat} : Stable EI (FSumB b N) := fun v w w' hE h => by
  obtain ⟨L, h1, h2, h3⟩ := h
  exact ⟨L, h1, h2, h3.ei hE⟩
theorem digs_one : Digs [1] ∧ dval [1] = 1 := ⟨fun d hd => by obtain rfl := List.mem_singleton.1 hd; omega, rfl⟩
theorem S3.bel {w W : World} {n : Nat} {bs : List (Nat × TypeId × Array Value)} {V : Int} {vals : List Value} (h : S3 w n bs V vals W) : Below w.heap.size w W := by
  match vals, h with
  | [], h => exact SB.bel h
  | [_], ⟨g, _, _, h⟩ => exact h.bel
  | _ :: _ :: _, ⟨g, _, _, _, _, h⟩ => exact h.bel
theorem SB.swp {w W : World} {n : Nat} {x y : Nat × TypeId × Array Value} (h : SB w n [x, y] W) : SB w n [y, x] W :=
  ⟨h.bel, h.size, fun z hz => h.bk z (by simp at hz ⊢; rcases hz with h | h <;> simp [h])⟩

set_option maxRecDepth 20000 in
set_option maxHeartbeats 2000000 in
theorem rndZ_any {w : World} {x : Value} {V : Int} {s : Nat} {p : Int} (hx : BigN w x V) (hl : (digs V.natAbs).length ≤ 500) (hs : s ≤ 100) (hp : -100 ≤ p) (hsp : p < s) (hp9 : p ≤ 100) :
    Calls Tryz.prog 36 #[x, .int .i64 (s : Nat), .int .i64 p] w fun e w' => ∃ y, e = .returned (.tuple #[y, .int .i64 p]) ∧ BigN w' y (rndI V (s - p).toNat) ∧ Below w.heap.size w w' := by
  obtain ⟨k, hk⟩ : ∃ k : Nat, (s : Int) - p = ((k + 1 : Nat) : Int) := ⟨((s : Int) - p).toNat - 1, by omega⟩
  rw [hk, Int.toNat_natCast]
  have hkb : k ≤ 199 := by omega
  have HW := Lib.hid (show wrap64 ((s : Int) - p) = (k : Int) + 1 by rw [hk, IntWalk.wrap64_in _ ⟨by omega, by omega⟩]; omega)
  have hsp' : ¬ ((s : Int) ≤ p) := by omega
  clear hk hs hp hp9 hsp
  obtain ⟨A, n, c, rfl, hnc, hcm, h⟩ := hx
  have hn5 : n ≤ 500 := by have := h.dlen; omega
  have HL := Lib.hid h.dlen
  have HR : Hid (rndI V (k + 1) = sgn (decide (V < 0)) (V.natAbs / 10 ^ (k + 1) + if 5 ≤ V.natAbs / 10 ^ k % 10 then 1 else 0)) := Lib.hid rfl
  generalize rndI V (k + 1) = R at *
  generalize decide (V < 0) = b at *
  generalize V.natAbs = N at *
  have k0 := (Bk.new w 51 #[.bool b, .slice A n c]).alloc (.cells #[.bool false, .slice none 0 0] 51)
  have k1 := Bk.new (w.alloc (.cells #[.bool b, .slice A n c] 51)) 51 #[.bool false, .slice none 0 0]
  simp only [World.size_alloc] at k1
  have hb0 := bel1 w (.cells #[.bool b, .slice A n c] 51) (.cells #[.bool false, .slice none 0 0] 51)
  have h' := (h.below hb0).mono hb0.size
  have hw0 := hb0.size
  have hsz2 : w.heap.size + 2 ≤ ((w.alloc (.cells #[.bool b, .slice A n c] 51)).alloc (.cells #[.bool false, .slice none 0 0] 51)).heap.size := by simp
  clear hl
  go_enter Tryz.func36, Tryz.ntmps36
  by_cases hbig : n < k + 1
  · have hbig' : (n : Int) < (k : Int) + 1 := by omega
    have HV := Lib.hid (show R = 0 by
      have h1 := digs_len.1 (show (digs N).length ≤ k by rw [← HL.out]; omega)
      rw [HR.out, Nat.div_eq_of_lt (Nat.lt_of_lt_of_le h1 (Nat.pow_le_pow_right (by omega) (by omega))), Nat.div_eq_of_lt h1]
      cases b <;> rfl)
    have hw := HW.out
    go_wp2
    refine bodyPost_ret (v := .tuple #[.agg #[.bool false, .slice none 0 0], .int .i64 p]) (by simp [results, Tryz.results36, go_sem]) rfl ⟨_, rfl, ?_, hb0⟩
    rw [HV.out]
    exact ⟨none, 0, 0, rfl, Nat.le_refl _, by unfold maxLen; omega, by rw [show digs (0 : Int).natAbs = [] from digs_zero]; exact Rd.nil _ _ _ _⟩
  · have hbig' : ¬ (n : Int) < (k : Int) + 1 := by omega
    obtain ⟨pa, rfl, ha, hc⟩ := h'.digAt (show k < n by omega)
    rw [digs_at] at hc
    have hw := HW.out
    have hkn : k + 1 ≤ n := by omega
    have hk0 : (0 : Int) ≤ (k : Int) + 1 := by omega
    have HSB : Hid (SB w 2 [(w.heap.size, 51, #[.bool b, .slice (some pa) n c]), (w.heap.size + 1, 51, #[.bool false, .slice none 0 0])] ((w.alloc (.cells #[.bool b, .slice (some pa) n c] 51)).alloc (.cells #[.bool false, .slice none 0 0] 51))) := Lib.hid
      ((sb1 w 51 _).push (by simp) 51 _).swp
    by_cases hup : 5 ≤ N / 10 ^ k % 10
    · have hup' : (5 : Int) ≤ ((N / 10 ^ k % 10 : Nat) : Int) := by omega
      have HR2 := Lib.hid (show R = sgn b (N / 10 ^ (k + 1) + 1) by rw [HR.out, if_pos hup])
      clear hup
      generalize N / 10 ^ k % 10 = dd at *
      go_wp2_with fail
      refine wp_region_phases (S := (S3 w 2 ([(w.heap.size, 51, #[.bool b, .slice (some pa) n c]), (w.heap.size + 1, 51, #[.bool false, .slice none 0 0])] : List (Nat × TypeId × Array Value)) (sgn b (N / 10 ^ (k + 1))))) (E := EI) [10, 11] [(2, Is (.int .i64 p)), (3, Is (.pointer (some ⟨w.heap.size, 0, none⟩))), (6, Is (.pointer (some ⟨w.heap.size + 1, 0, none⟩))), (8, Is (.int .i64 ((k : Int) + 1))), (9, Is (.bool true))] [(33, Is (.pointer (some ⟨w.heap.size, 0, none⟩))), (34, Is (.bool b)), (35, FMade w.heap.size), (36, Is (.pointer (some ⟨w.heap.size, 1, none⟩))), (37, Is (.slice (some pa) n c)), (38, Is (.int .i64 ((k : Int) + 1))), (39, FRow (n - (k + 1)) (digs (N / 10 ^ (k + 1)))), (40, FRow (n - (k + 1)) (digs (N / 10 ^ (k + 1)))), (41, FBig b (digs (N / 10 ^ (k + 1)))), (42, FNum (sgn b (N / 10 ^ (k + 1))))]
        [.op [3] none, .op [33] none, .op [] none, .op [3] none, .op [36] none, .op [8] none, .op [37, 38] none, .op [35, 39] none, .op [34, 40] none, .op [41] none, .phase 0 [] [], .phase 1 [42] [(0, 10)]] (by as_aux_lemma => kernel_rfl) ?_ ?_ ?_ ?_ ?_ ⟨stable_is _ _, stable_is _ _, stable_is _ _, stable_is _ _, stable_is _ _, stable_is _ _, stable_is _ _, st_made, stable_is _ _, stable_is _ _, stable_is _ _, st_row, st_row, st_big, st_num, trivial⟩ ?_ (HSB.out.drew) ?_ ?_
      · as_aux_lemma => kernel_rfl
      · as_aux_lemma => kernel_rfl
      · as_aux_lemma => kernel_rfl
      · as_aux_lemma => kernel_rfl
      · as_aux_lemma => kernel_rfl
      · exact ⟨rfl, rfl, rfl, rfl, rfl, trivial⟩
      · refine ⟨?_, ?_, ?_, ?_, ?_, ?_, ?_, ?_, ?_, ?_, ?_, ?_, trivial⟩
        · as_aux_lemma =>
            intro vals a W hS hL
            have e3 : a.tmps.getD 3 undef = .pointer (some ⟨w.heap.size, 0, none⟩) := hL.1
            clear hL
            go_simp
            exact ⟨⟨fun d hd => by injection hd with hd; subst hd; rfl, fun h => by cases h⟩, hS, EI.refl _⟩
        · as_aux_lemma =>
            intro vals a W hS hL
            have e33 : a.tmps.getD 33 undef = .pointer (some ⟨w.heap.size, 0, none⟩) := hL.1
            clear hL
            have kb : Bk W w.heap.size 51 #[.bool b, .slice (some pa) n c] := hS.bk (.head _)
            have f0 := kb.cell 0
            have f1 := kb.cell 1
            clear kb
            go_simp
            exact ⟨⟨fun d hd => by injection hd with hd; subst hd; rfl, fun h => by cases h⟩, hS, EI.refl _⟩
        · as_aux_lemma =>
            intro vals a W hS hL
            clear hL
            have hsz := hS.size
            go_simp
            have hb : Below W.heap.size W (W.alloc (.cells #[] 3)) := (Below.refl _ _).alloc (Nat.le_refl _) _
            exact ⟨⟨fun d hd => by injection hd with hd; subst hd; exact ⟨_, rfl, World.ownsRow_made W #[] 0 (by omega) (by simp [maxLen]) (by simp)⟩, fun h => by cases h⟩, hS.call hb, EI.of_below hb⟩
        · as_aux_lemma =>
            intro vals a W hS hL
            have e3 : a.tmps.getD 3 undef = .pointer (some ⟨w.heap.size, 0, none⟩) := hL.1
            clear hL
            go_simp
            exact ⟨⟨fun d hd => by injection hd with hd; subst hd; rfl, fun h => by cases h⟩, hS, EI.refl _⟩
        · as_aux_lemma =>
            intro vals a W hS hL
            have e36 : a.tmps.getD 36 undef = .pointer (some ⟨w.heap.size, 1, none⟩) := hL.1
            clear hL
            have kb : Bk W w.heap.size 51 #[.bool b, .slice (some pa) n c] := hS.bk (.head _)
            have f0 := kb.cell 0
            have f1 := kb.cell 1
            clear kb
            go_simp
            exact ⟨⟨fun d hd => by injection hd with hd; subst hd; rfl, fun h => by cases h⟩, hS, EI.refl _⟩
        · as_aux_lemma =>
            intro vals a W hS hL
            have e8 : a.tmps.getD 8 undef = .int .i64 ((k : Int) + 1) := hL.1
            clear hL
            go_simp
            exact ⟨⟨fun d hd => by injection hd with hd; subst hd; rfl, fun h => by cases h⟩, hS, EI.refl _⟩
        · as_aux_lemma =>
            intro vals a W hS hL
            have e37 : a.tmps.getD 37 undef = .slice (some pa) n c := hL.1
            have e38 : a.tmps.getD 38 undef = .int .i64 ((k : Int) + 1) := hL.2.1
            clear hL
            have hrd := (h.below hS.bel).mono hS.bel.size
            by_cases hcap : c = k + 1
            · have hn1 : n = k + 1 := by omega
              have hrn := hrd.dropN (k := k + 1) (by omega)
              rw [digs_drop] at hrn
              have hz := hrn.dlen
              have hz2 : digs (N / 10 ^ (k + 1)) = [] := List.eq_nil_of_length_eq_zero (by omega)
              clear hrd hrn hz
              subst hcap
              subst hn1
              go_simp
              exact ⟨⟨fun d hd => by injection hd with hd; subst hd; exact ⟨some pa, 0, by simp, by omega, by unfold maxLen; omega, Rd.nil _ _ _ _⟩, fun h => by cases h⟩, hS, EI.refl _⟩
            · have hrn := hrd.dropN (k := k + 1) (by omega)
              rw [digs_drop] at hrn
              go_simp
              exact ⟨⟨fun d hd => by injection hd with hd; subst hd; exact ⟨some (pa.add (k + 1)), c - (k + 1), rfl, by omega, by omega, hrn⟩, fun h => by cases h⟩, hS, EI.refl _⟩
        · as_aux_lemma =>
            intro vals a W hS hL
            have e35 := hL.1
            have e39 := hL.2.1
            clear hL
            have hsz := hS.size
            obtain ⟨g, e35, h35⟩ := e35
            obtain ⟨A1, c1, e39, hm1, hc1, h39⟩ := e39
            refine lands_app0 rowInts (.tmp 35) (.tmp 39) rfl e35 e39 h35 h39 (dcs_one _) (by unfold maxLen; omega) (by omega) (by omega) fun b1 k1 W1 ho hb => ?_
            obtain ⟨A2, c2, he, hnc2, hcm2, hr2⟩ := own_form ho
            exact ⟨⟨fun d hd => by injection hd with hd; subst hd; exact ⟨A2, c2, he, hnc2, hcm2, hr2⟩, fun h => by cases h⟩, hS.call hb, EI.of_below hb⟩
        · as_aux_lemma =>
            intro vals a W hS hL
            have e34 : a.tmps.getD 34 undef = .bool b := hL.1
            have e40 := hL.2.1
            clear hL
            obtain ⟨A1, c1, e40, hm1, hc1, h40⟩ := e40
            rw [Array.getD_eq_getD_getElem?] at e34 e40
            go_simp
            exact ⟨⟨fun d hd => by injection hd with hd; subst hd; exact ⟨A1, _, c1, rfl, hm1, hc1, h40⟩, fun h => by cases h⟩, hS, EI.refl _⟩
        · as_aux_lemma =>
            intro vals a W hS hL
            have e41 := hL.1
            clear hL
            obtain ⟨A1, n1, c1, e41, hm1, hc1, h41⟩ := e41
            go_simp
            refine (trim_any ⟨A1, n1, c1, rfl, hm1, hc1, h41⟩).mono ?_
            rintro e W1 ⟨y, rfl, hy, hb⟩
            exact ⟨_, rfl, ⟨fun d hd => by injection hd with hd; subst hd; exact bigN_of (digs_digs _) (dval_digs _) hy, fun h => by cases h⟩, hS.call hb, EI.of_below hb⟩
        · as_aux_lemma =>
            intro a W vals hv hS hL hp
            clear hL
            match vals, hv, hS with
            | [], _, hS =>
              have hB : SB w 2 ([(w.heap.size, 51, #[.bool b, .slice (some pa) n c]), (w.heap.size + 1, 51, #[.bool false, .slice none 0 0])] : List (Nat × TypeId × Array Value)) W := hS
              have hF := hB.alloc 51 #[.bool false, .slice none 0 0]
              have hz := hB.size
              have hb : Below W.heap.size W (W.alloc (.cells #[.bool false, .slice none 0 0] 51)) := (Below.refl _ _).alloc (Nat.le_refl _) _
              go_simp
              exact ⟨⟨_, rfl, hz, hF⟩, trivial, EI.of_below hb⟩
        · as_aux_lemma =>
            intro a W vals hv hS hL hp
            have e42 := hL.1
            clear hL
            match vals, hv, hS with
            | [v], _, hS =>
              obtain ⟨g, rfl, hg, hB⟩ := hS
              have e10 := hp.1 (by simp)
              simp only [List.getElem?_cons_zero, Option.some.injEq] at e10
              have hnum := e42
              obtain ⟨A4, n4, c4, e42, hm4, hc4, h42⟩ := e42
              have kz := hB.bk _ (List.mem_cons_self ..)
              have hlt : ∀ x ∈ ([(w.heap.size, 51, #[.bool b, .slice (some pa) n c]), (w.heap.size + 1, 51, #[.bool false, .slice none 0 0])] : List (Nat × TypeId × Array Value)), x.1 ≠ g := by simp <;> omega
              have z0 := kz.frozen 0
              have z1 := kz.frozen 1
              have q0 := kz.cell 0
              have q1 := kz.cell 1
              rw [show a.tmps.getD 42 undef = _ from e42] at hnum
              have hF := hB.set2 (by omega) hlt (.bool (decide ((sgn b (N / 10 ^ (k + 1))) < 0))) (.slice A4 n4 c4)
              have hN := BigN.box2 (b' := decide ((sgn b (N / 10 ^ (k + 1))) < 0)) (A' := A4) (n' := n4) (c' := c4) hnum kz
              have hE := (EI.set (i := 0) (u := .bool (decide ((sgn b (N / 10 ^ (k + 1))) < 0))) kz (show (51 : TypeId) ≠ 3 by decide) no_big).trans (EI.set (i := 1) (u := .slice A4 n4 c4) (show Bk (W.setCell ⟨g, 0, none⟩ (.bool (decide ((sgn b (N / 10 ^ (k + 1))) < 0)))) g 51 #[.bool (decide ((sgn b (N / 10 ^ (k + 1))) < 0)), .slice none 0 0] by simpa using kz.set_ 0 (.bool (decide ((sgn b (N / 10 ^ (k + 1))) < 0)))) (show (51 : TypeId) ≠ 3 by decide) no_big)
              rw [Array.getD_eq_getD_getElem?] at e42 e10
              have e10x := e10.symm
              clear e10 hS kz hB hnum
              go_simp
              exact ⟨⟨g, _, rfl, hg, hN, hF⟩, trivial, hE⟩
      · intro a W' vals hd hsz hT hF hv hP hS
        obtain ⟨v0, v1, rfl⟩ : ∃ v0 v1, vals = [v0, v1] := by
          match vals, hv with
          | [x, y], _ => exact ⟨x, y, rfl⟩
        obtain ⟨g, cs, hg0, hg, hN, hB⟩ : ∃ g cs, v0 = .pointer (some ⟨g, 0, none⟩) ∧ w.heap.size + 2 ≤ g ∧ BigN W' (.agg cs) (sgn b (N / 10 ^ (k + 1))) ∧ SB w 2 ((g, 51, cs) :: ([(w.heap.size, 51, #[.bool b, .slice (some pa) n c]), (w.heap.size + 1, 51, #[.bool false, .slice none 0 0])] : List (Nat × TypeId × Array Value))) W' := hS
        subst hg0
        have e10 : a.tmps.getD 10 undef = .pointer (some ⟨g, 0, none⟩) := by
          have := hP 0 10 _ 10 rfl (by simp) rfl rfl
          simpa using this.symm
        have e2 : a.tmps.getD 2 undef = .int .i64 p := hT 2 (by simp)
        have e3 : a.tmps.getD 3 undef = .pointer (some ⟨w.heap.size, 0, none⟩) := hT 3 (by simp)
        have e6 : a.tmps.getD 6 undef = .pointer (some ⟨w.heap.size + 1, 0, none⟩) := hT 6 (by simp)
        have e9 : a.tmps.getD 9 undef = .bool true := hT 9 (by simp)
        clear hT hF hP
        rw [act_lit 54 a hd hsz]
        simp only [List.range, List.range.loop, List.map, e2, e3, e6, e9, e10]
        clear e2 e3 e6 e9 e10
        obtain ⟨A4, n4, c4, hcs, hm4, hc4, h4⟩ := hN
        injection hcs with hcs
        subst hcs
        have hN : BigN W' (.agg #[.bool (decide ((sgn b (N / 10 ^ (k + 1))) < 0)), .slice A4 n4 c4]) (sgn b (N / 10 ^ (k + 1))) := ⟨A4, n4, c4, rfl, hm4, hc4, h4⟩
        have hn4 : n4 ≤ 500 := by
          have h1 := h4.dlen
          rw [sgn_abs, ← digs_drop, List.length_drop, ← HL.out] at h1
          omega
        rw [sgn_abs] at h4
        clear hN
        generalize decide (sgn b (N / 10 ^ (k + 1)) < 0) = b4 at *
        have hbA : Below W'.heap.size W' ((W'.alloc (.cells #[.int .i64 1] 3)).drew) := ((Below.refl W'.heap.size W').alloc (Nat.le_refl _) _).drew
        have HBA := Lib.hid (hB.call hbA)
        have h47 : Rd ((W'.alloc (.cells #[.int .i64 1] 3)).drew) ((W'.alloc (.cells #[.int .i64 1] 3)).drew).heap.size 1 A4 n4 (dcs (digs (N / 10 ^ (k + 1)))) := (h4.below hbA).mono hbA.size
        have h48 : Rd ((W'.alloc (.cells #[.int .i64 1] 3)).drew) ((W'.alloc (.cells #[.int .i64 1] 3)).drew).heap.size 1 (some ⟨W'.heap.size, 0, none⟩) 1 (dcs [1]) := (Rd.fresh W' 3 1 1 [.int .i64 1] rfl).drew.mono (by simp)
        have hop := plus_any (c := c4) (c' := 1) h47 h48 (digs_digs _) digs_one.1 (by omega) (by omega)
        have HV : Hid (dval (digs (N / 10 ^ (k + 1))) + dval [1] = (N / 10 ^ (k + 1)) + 1) := Lib.hid (by rw [dval_digs, digs_one.2])
        have kg := hB.bk _ (List.mem_cons_self ..)
        have cg0 := kg.cell 0
        have cg1 := kg.cell 1
        have ks := hB.bk _ (.tail _ (.head _))
        have cs0 := ks.cell 0
        have cs1 := ks.cell 1
        have kgA := kg.alloc (.cells #[.int .i64 1] 3)
        have ksA := ks.alloc (.cells #[.int .i64 1] 3)
        have dg0 := kgA.cell 0
        have dg1 := kgA.cell 1
        have ds0 := ksA.cell 0
        have ds1 := ksA.cell 1
        go_wp2_with fail
        go_region_with (first | (go_at_call 44; refine (hop).mono ?_; rintro e w2 ⟨v, k3, L, rfl, ho, hd, hv, -, hb⟩; obtain ⟨A3, c3, rfl, hnc3, hcm3, hr3⟩ := own_form ho; have hB5 := HBA.out.call hb; have pg := hB5.bk _ (.head _); have x00 := pg.cell 0; have x01 := pg.cell 1; have y00 := pg.frozen 0; have y01 := pg.frozen 1; have p3 := hB5.bk _ (.tail _ (.head _)); have x30 := p3.cell 0; have x31 := p3.cell 1) | (go_at_call 45; refine (trim_any (b := b) ⟨A3, k3, c3, rfl, hnc3, hcm3, hr3⟩).mono ?_; rintro e w3 ⟨z, rfl, hz, hb3⟩; have hz1 := bigN_of hd (hv.trans HV.out) hz; obtain ⟨A6, n6, c6, rfl, hnc6, hcm6, hr6⟩ := hz; have hB6 := hB5.call hb3; have qg := hB6.bk _ (.head _); have x00 := qg.cell 0; have x01 := qg.cell 1; have y00 := qg.frozen 0; have y01 := qg.frozen 1; have q3 := hB6.bk _ (.tail _ (.head _)); have x30 := q3.cell 0; have x31 := q3.cell 1))
        all_goals
          have hlt : ∀ x ∈ ([(w.heap.size, 51, #[.bool b, .slice (some pa) n c]), (w.heap.size + 1, 51, #[.bool false, .slice none 0 0])] : List (Nat × TypeId × Array Value)), x.1 ≠ g := by simp <;> omega
          have hF := hB6.set2 (by omega) hlt (.bool (b && !(neat L).isEmpty)) (.slice A6 n6 c6)
          have hN6 := hz1.box2 (b' := (b && !(neat L).isEmpty)) (A' := A6) (n' := n6) (c' := c6) qg
          generalize (b && !(neat L).isEmpty) = b6 at *
          generalize ((w3.setCell ⟨g, 0, none⟩ (.bool b6)).setCell ⟨g, 1, none⟩ (.slice A6 n6 c6)) = W6 at *
          have ke := hF.bk _ (List.mem_cons_self ..)
          have ce0 := ke.cell 0
          have ce1 := ke.cell 1
          have kr := hF.bk _ (.tail _ (.tail _ (.head _)))
          have cr0 := kr.cell 0
          have cr1 := kr.cell 1
          have zr0 := kr.frozen 0
          have zr1 := kr.frozen 1
          have hbel := hF.bel
          have hfin := hN6.box2 (b' := b6) (A' := A6) (n' := n6) (c' := c6) kr
          go_wp2
          refine bodyPost_ret (v := .tuple #[.agg #[.bool b6, .slice A6 n6 c6], .int .i64 p]) (by simp [results, Tryz.results36, go_sem, cr0, cr1]) rfl ⟨_, rfl, ?_, (hbel.setCell (by simp) _).setCell (by simp) _⟩
          rw [HR2.out]
          exact hfin
    · have hup' : ¬ (5 : Int) ≤ ((N / 10 ^ k % 10 : Nat) : Int) := by omega
      have HR2 := Lib.hid (show R = sgn b (N / 10 ^ (k + 1)) by rw [HR.out, if_neg hup]; rfl)
      clear hup
      generalize N / 10 ^ k % 10 = dd at *
      go_wp2_with fail
      refine wp_region_phases (S := (S3 w 2 ([(w.heap.size, 51, #[.bool b, .slice (some pa) n c]), (w.heap.size + 1, 51, #[.bool false, .slice none 0 0])] : List (Nat × TypeId × Array Value)) (sgn b (N / 10 ^ (k + 1))))) (E := EI) [10, 11] [(2, Is (.int .i64 p)), (3, Is (.pointer (some ⟨w.heap.size, 0, none⟩))), (6, Is (.pointer (some ⟨w.heap.size + 1, 0, none⟩))), (8, Is (.int .i64 ((k : Int) + 1))), (9, Is (.bool false))] [(33, Is (.pointer (some ⟨w.heap.size, 0, none⟩))), (34, Is (.bool b)), (35, FMade w.heap.size), (36, Is (.pointer (some ⟨w.heap.size, 1, none⟩))), (37, Is (.slice (some pa) n c)), (38, Is (.int .i64 ((k : Int) + 1))), (39, FRow (n - (k + 1)) (digs (N / 10 ^ (k + 1)))), (40, FRow (n - (k + 1)) (digs (N / 10 ^ (k + 1)))), (41, FBig b (digs (N / 10 ^ (k + 1)))), (42, FNum (sgn b (N / 10 ^ (k + 1))))]
        [.op [3] none, .op [33] none, .op [] none, .op [3] none, .op [36] none, .op [8] none, .op [37, 38] none, .op [35, 39] none, .op [34, 40] none, .op [41] none, .phase 0 [] [], .phase 1 [42] [(0, 10)]] (by as_aux_lemma => kernel_rfl) ?_ ?_ ?_ ?_ ?_ ⟨stable_is _ _, stable_is _ _, stable_is _ _, stable_is _ _, stable_is _ _, stable_is _ _, stable_is _ _, st_made, stable_is _ _, stable_is _ _, stable_is _ _, st_row, st_row, st_big, st_num, trivial⟩ ?_ (HSB.out.drew) ?_ ?_
      · as_aux_lemma => kernel_rfl
      · as_aux_lemma => kernel_rfl
      · as_aux_lemma => kernel_rfl
      · as_aux_lemma => kernel_rfl
      · as_aux_lemma => kernel_rfl
      · exact ⟨rfl, rfl, rfl, rfl, rfl, trivial⟩
      · refine ⟨?_, ?_, ?_, ?_, ?_, ?_, ?_, ?_, ?_, ?_, ?_, ?_, trivial⟩
        · as_aux_lemma =>
            intro vals a W hS hL
            have e3 : a.tmps.getD 3 undef = .pointer (some ⟨w.heap.size, 0, none⟩) := hL.1
            clear hL
            go_simp
            exact ⟨⟨fun d hd => by injection hd with hd; subst hd; rfl, fun h => by cases h⟩, hS, EI.refl _⟩
        · as_aux_lemma =>
            intro vals a W hS hL
            have e33 : a.tmps.getD 33 undef = .pointer (some ⟨w.heap.size, 0, none⟩) := hL.1
            clear hL
            have kb : Bk W w.heap.size 51 #[.bool b, .slice (some pa) n c] := hS.bk (.head _)
            have f0 := kb.cell 0
            have f1 := kb.cell 1
            clear kb
            go_simp
            exact ⟨⟨fun d hd => by injection hd with hd; subst hd; rfl, fun h => by cases h⟩, hS, EI.refl _⟩
        · as_aux_lemma =>
            intro vals a W hS hL
            clear hL
            have hsz := hS.size
            go_simp
            have hb : Below W.heap.size W (W.alloc (.cells #[] 3)) := (Below.refl _ _).alloc (Nat.le_refl _) _
            exact ⟨⟨fun d hd => by injection hd with hd; subst hd; exact ⟨_, rfl, World.ownsRow_made W #[] 0 (by omega) (by simp [maxLen]) (by simp)⟩, fun h => by cases h⟩, hS.call hb, EI.of_below hb⟩
        · as_aux_lemma =>
            intro vals a W hS hL
            have e3 : a.tmps.getD 3 undef = .pointer (some ⟨w.heap.size, 0, none⟩) := hL.1
            clear hL
            go_simp
            exact ⟨⟨fun d hd => by injection hd with hd; subst hd; rfl, fun h => by cases h⟩, hS, EI.refl _⟩
        · as_aux_lemma =>
            intro vals a W hS hL
            have e36 : a.tmps.getD 36 undef = .pointer (some ⟨w.heap.size, 1, none⟩) := hL.1
            clear hL
            have kb : Bk W w.heap.size 51 #[.bool b, .slice (some pa) n c] := hS.bk (.head _)
            have f0 := kb.cell 0
            have f1 := kb.cell 1
            clear kb
            go_simp
            exact ⟨⟨fun d hd => by injection hd with hd; subst hd; rfl, fun h => by cases h⟩, hS, EI.refl _⟩
        · as_aux_lemma =>
            intro vals a W hS hL
            have e8 : a.tmps.getD 8 undef = .int .i64 ((k : Int) + 1) := hL.1
            clear hL
            go_simp
            exact ⟨⟨fun d hd => by injection hd with hd; subst hd; rfl, fun h => by cases h⟩, hS, EI.refl _⟩
        · as_aux_lemma =>
            intro vals a W hS hL
            have e37 : a.tmps.getD 37 undef = .slice (some pa) n c := hL.1
            have e38 : a.tmps.getD 38 undef = .int .i64 ((k : Int) + 1) := hL.2.1
            clear hL
            have hrd := (h.below hS.bel).mono hS.bel.size
            by_cases hcap : c = k + 1
            · have hn1 : n = k + 1 := by omega
              have hrn := hrd.dropN (k := k + 1) (by omega)
              rw [digs_drop] at hrn
              have hz := hrn.dlen
              have hz2 : digs (N / 10 ^ (k + 1)) = [] := List.eq_nil_of_length_eq_zero (by omega)
              clear hrd hrn hz
              subst hcap
              subst hn1
              go_simp
              exact ⟨⟨fun d hd => by injection hd with hd; subst hd; exact ⟨some pa, 0, by simp, by omega, by unfold maxLen; omega, Rd.nil _ _ _ _⟩, fun h => by cases h⟩, hS, EI.refl _⟩
            · have hrn := hrd.dropN (k := k + 1) (by omega)
              rw [digs_drop] at hrn
              go_simp
              exact ⟨⟨fun d hd => by injection hd with hd; subst hd; exact ⟨some (pa.add (k + 1)), c - (k + 1), rfl, by omega, by omega, hrn⟩, fun h => by cases h⟩, hS, EI.refl _⟩
        · as_aux_lemma =>
            intro vals a W hS hL
            have e35 := hL.1
            have e39 := hL.2.1
            clear hL
            have hsz := hS.size
            obtain ⟨g, e35, h35⟩ := e35
            obtain ⟨A1, c1, e39, hm1, hc1, h39⟩ := e39
            refine lands_app0 rowInts (.tmp 35) (.tmp 39) rfl e35 e39 h35 h39 (dcs_one _) (by unfold maxLen; omega) (by omega) (by omega) fun b1 k1 W1 ho hb => ?_
            obtain ⟨A2, c2, he, hnc2, hcm2, hr2⟩ := own_form ho
            exact ⟨⟨fun d hd => by injection hd with hd; subst hd; exact ⟨A2, c2, he, hnc2, hcm2, hr2⟩, fun h => by cases h⟩, hS.call hb, EI.of_below hb⟩
        · as_aux_lemma =>
            intro vals a W hS hL
            have e34 : a.tmps.getD 34 undef = .bool b := hL.1
            have e40 := hL.2.1
            clear hL
            obtain ⟨A1, c1, e40, hm1, hc1, h40⟩ := e40
            rw [Array.getD_eq_getD_getElem?] at e34 e40
            go_simp
            exact ⟨⟨fun d hd => by injection hd with hd; subst hd; exact ⟨A1, _, c1, rfl, hm1, hc1, h40⟩, fun h => by cases h⟩, hS, EI.refl _⟩
        · as_aux_lemma =>
            intro vals a W hS hL
            have e41 := hL.1
            clear hL
            obtain ⟨A1, n1, c1, e41, hm1, hc1, h41⟩ := e41
            go_simp
            refine (trim_any ⟨A1, n1, c1, rfl, hm1, hc1, h41⟩).mono ?_
            rintro e W1 ⟨y, rfl, hy, hb⟩
            exact ⟨_, rfl, ⟨fun d hd => by injection hd with hd; subst hd; exact bigN_of (digs_digs _) (dval_digs _) hy, fun h => by cases h⟩, hS.call hb, EI.of_below hb⟩
        · as_aux_lemma =>
            intro a W vals hv hS hL hp
            clear hL
            match vals, hv, hS with
            | [], _, hS =>
              have hB : SB w 2 ([(w.heap.size, 51, #[.bool b, .slice (some pa) n c]), (w.heap.size + 1, 51, #[.bool false, .slice none 0 0])] : List (Nat × TypeId × Array Value)) W := hS
              have hF := hB.alloc 51 #[.bool false, .slice none 0 0]
              have hz := hB.size
              have hb : Below W.heap.size W (W.alloc (.cells #[.bool false, .slice none 0 0] 51)) := (Below.refl _ _).alloc (Nat.le_refl _) _
              go_simp
              exact ⟨⟨_, rfl, hz, hF⟩, trivial, EI.of_below hb⟩
        · as_aux_lemma =>
            intro a W vals hv hS hL hp
            have e42 := hL.1
            clear hL
            match vals, hv, hS with
            | [v], _, hS =>
              obtain ⟨g, rfl, hg, hB⟩ := hS
              have e10 := hp.1 (by simp)
              simp only [List.getElem?_cons_zero, Option.some.injEq] at e10
              have hnum := e42
              obtain ⟨A4, n4, c4, e42, hm4, hc4, h42⟩ := e42
              have kz := hB.bk _ (List.mem_cons_self ..)
              have hlt : ∀ x ∈ ([(w.heap.size, 51, #[.bool b, .slice (some pa) n c]), (w.heap.size + 1, 51, #[.bool false, .slice none 0 0])] : List (Nat × TypeId × Array Value)), x.1 ≠ g := by simp <;> omega
              have z0 := kz.frozen 0
              have z1 := kz.frozen 1
              have q0 := kz.cell 0
              have q1 := kz.cell 1
              rw [show a.tmps.getD 42 undef = _ from e42] at hnum
              have hF := hB.set2 (by omega) hlt (.bool (decide ((sgn b (N / 10 ^ (k + 1))) < 0))) (.slice A4 n4 c4)
              have hN := BigN.box2 (b' := decide ((sgn b (N / 10 ^ (k + 1))) < 0)) (A' := A4) (n' := n4) (c' := c4) hnum kz
              have hE := (EI.set (i := 0) (u := .bool (decide ((sgn b (N / 10 ^ (k + 1))) < 0))) kz (show (51 : TypeId) ≠ 3 by decide) no_big).trans (EI.set (i := 1) (u := .slice A4 n4 c4) (show Bk (W.setCell ⟨g, 0, none⟩ (.bool (decide ((sgn b (N / 10 ^ (k + 1))) < 0)))) g 51 #[.bool (decide ((sgn b (N / 10 ^ (k + 1))) < 0)), .slice none 0 0] by simpa using kz.set_ 0 (.bool (decide ((sgn b (N / 10 ^ (k + 1))) < 0)))) (show (51 : TypeId) ≠ 3 by decide) no_big)
              rw [Array.getD_eq_getD_getElem?] at e42 e10
              have e10x := e10.symm
              clear e10 hS kz hB hnum
              go_simp
              exact ⟨⟨g, _, rfl, hg, hN, hF⟩, trivial, hE⟩
      · intro a W' vals hd hsz hT hF hv hP hS
        obtain ⟨v0, v1, rfl⟩ : ∃ v0 v1, vals = [v0, v1] := by
          match vals, hv with
          | [x, y], _ => exact ⟨x, y, rfl⟩
        obtain ⟨g, cs, hg0, hg, hN, hB⟩ : ∃ g cs, v0 = .pointer (some ⟨g, 0, none⟩) ∧ w.heap.size + 2 ≤ g ∧ BigN W' (.agg cs) (sgn b (N / 10 ^ (k + 1))) ∧ SB w 2 ((g, 51, cs) :: ([(w.heap.size, 51, #[.bool b, .slice (some pa) n c]), (w.heap.size + 1, 51, #[.bool false, .slice none 0 0])] : List (Nat × TypeId × Array Value))) W' := hS
        subst hg0
        have e10 : a.tmps.getD 10 undef = .pointer (some ⟨g, 0, none⟩) := by
          have := hP 0 10 _ 10 rfl (by simp) rfl rfl
          simpa using this.symm
        have e2 : a.tmps.getD 2 undef = .int .i64 p := hT 2 (by simp)
        have e3 : a.tmps.getD 3 undef = .pointer (some ⟨w.heap.size, 0, none⟩) := hT 3 (by simp)
        have e6 : a.tmps.getD 6 undef = .pointer (some ⟨w.heap.size + 1, 0, none⟩) := hT 6 (by simp)
        have e9 : a.tmps.getD 9 undef = .bool false := hT 9 (by simp)
        clear hT hF hP
        rw [act_lit 54 a hd hsz]
        simp only [List.range, List.range.loop, List.map, e2, e3, e6, e9, e10]
        clear e2 e3 e6 e9 e10
        obtain ⟨A4, n4, c4, hcs, hm4, hc4, h4⟩ := hN
        injection hcs with hcs
        subst hcs
        have hN : BigN W' (.agg #[.bool (decide ((sgn b (N / 10 ^ (k + 1))) < 0)), .slice A4 n4 c4]) (sgn b (N / 10 ^ (k + 1))) := ⟨A4, n4, c4, rfl, hm4, hc4, h4⟩
        have kg := hB.bk _ (List.mem_cons_self ..)
        have cg0 := kg.cell 0
        have cg1 := kg.cell 1
        have kr := hB.bk _ (.tail _ (.tail _ (.head _)))
        have cr0 := kr.cell 0
        have cr1 := kr.cell 1
        have zr0 := kr.frozen 0
        have zr1 := kr.frozen 1
        have hbel := hB.bel
        have hfin := hN.box2 (b' := decide (sgn b (N / 10 ^ (k + 1)) < 0)) (A' := A4) (n' := n4) (c' := c4) kr
        generalize decide (sgn b (N / 10 ^ (k + 1)) < 0) = b4 at *
        go_wp2
        refine bodyPost_ret (v := .tuple #[.agg #[.bool b4, .slice A4 n4 c4], .int .i64 p]) (by simp [results, Tryz.results36, go_sem, cr0, cr1]) rfl ⟨_, rfl, ?_, (hbel.setCell (by simp) _).setCell (by simp) _⟩
        rw [HR2.out]
        exact hfin
end Go.Proofs.YtgepipapppdhfaaGreatDoor
