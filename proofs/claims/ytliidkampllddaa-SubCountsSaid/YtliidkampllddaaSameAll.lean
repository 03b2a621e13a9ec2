/- cashbooklaw1.SameAll (of rows alike, places left out) by its contract. Conditions: the rows read as lists. -/
import Derived.Test.YtliidkampllddaaSameRec
import Derived.Test.YtliidkampllddaaSettle
namespace Go.Proofs.Ytliidkampllddaa
open Go.RowKit

/-- What holds while the two records are looked at. -/
abbrev AllH (w : World) (p q : Addr) (v0 v1 v2 v3 u0 u1 u2 u3 : Value) (W : World) : Prop :=
  Below w.heap.size w W ∧ W.cell? p = some v0 ∧ W.cell? ⟨p.block, p.off + 1, none⟩ = some v1 ∧ W.cell? ⟨p.block, p.off + 2, none⟩ = some v2 ∧ W.cell? ⟨p.block, p.off + 3, none⟩ = some v3 ∧
    W.cell? q = some u0 ∧ W.cell? ⟨q.block, q.off + 1, none⟩ = some u1 ∧ W.cell? ⟨q.block, q.off + 2, none⟩ = some u2 ∧ W.cell? ⟨q.block, q.off + 3, none⟩ = some u3

theorem AllH.below {w W W' : World} {p q : Addr} {v0 v1 v2 v3 u0 u1 u2 u3 : Value} (h : AllH w p q v0 v1 v2 v3 u0 u1 u2 u3 W) (hp : p.block < w.heap.size) (hq : q.block < w.heap.size) (hb : Below w.heap.size W W') : AllH w p q v0 v1 v2 v3 u0 u1 u2 u3 W' := by
  obtain ⟨h0, h1, h2, h3, h4, h5, h6, h7, h8⟩ := h
  exact ⟨h0.trans hb, (hb.cell (p := p) hp).trans h1, (hb.cell (p := ⟨p.block, p.off + 1, none⟩) hp).trans h2, (hb.cell (p := ⟨p.block, p.off + 2, none⟩) hp).trans h3, (hb.cell (p := ⟨p.block, p.off + 3, none⟩) hp).trans h4,
    (hb.cell (p := q) hq).trans h5, (hb.cell (p := ⟨q.block, q.off + 1, none⟩) hq).trans h6, (hb.cell (p := ⟨q.block, q.off + 2, none⟩) hq).trans h7, (hb.cell (p := ⟨q.block, q.off + 3, none⟩) hq).trans h8⟩

def alikeM (r s : RecM) : Prop := r.type = s.type ∧ r.data = s.data ∧ r.cuts = s.cuts

theorem AllH.next {w W W' : World} {p q : Addr} {v0 v1 v2 v3 u0 u1 u2 u3 : Value} (h : AllH w p q v0 v1 v2 v3 u0 u1 u2 u3 W) (hp : p.block < w.heap.size) (hq : q.block < w.heap.size) (hb : Below W.heap.size W W') : AllH w p q v0 v1 v2 v3 u0 u1 u2 u3 W' :=
  h.below hp hq (hb.mono h.1.size)

theorem AllH.same {w W : World} {B : Nat} {r s : RecM} {D C D' C' : Option Addr} {dc cc dc' cc' : Nat} {p q : Addr} {v0 v1 v2 v3 u0 u1 u2 u3 : Value} (h : AllH w p q v0 v1 v2 v3 u0 u1 u2 u3 W)
    (x1 : RecRd w B r D dc C cc) (x2 : RecRd w B s D' dc' C' cc') (hB : B ≤ w.heap.size) (hi : alikeM r s) :
    Calls Try.prog 24 #[.agg #[.int .i64 r.type, .slice D r.data.length dc, .slice C r.cuts.length cc, .int .i64 r.at_],
        .agg #[.int .i64 s.type, .slice D' s.data.length dc', .slice C' s.cuts.length cc', .int .i64 s.at_]] W fun e w' => e = .returned (.bool true) ∧ Below W.heap.size W w' :=
  sameRec_any (x1.below (h.1.mono hB)) (x2.below (h.1.mono hB)) (Nat.le_trans hB h.1.size) hi.1 hi.2.1 hi.2.2

def EB' (w W W' : World) : Prop := Below w.heap.size W W'
theorem AllH.size {w W : World} {p q : Addr} {v0 v1 v2 v3 u0 u1 u2 u3 : Value} (h : AllH w p q v0 v1 v2 v3 u0 u1 u2 u3 W) : w.heap.size ≤ W.heap.size := h.1.size

theorem len_succ {α : Type} {l : List α} {n : Nat} (h : l.length = n + 1) : ∃ y t, l = y :: t ∧ t.length = n := by
  cases l with
  | nil => simp at h
  | cons y t => exact ⟨y, t, rfl, by simpa using h⟩

theorem list46 {α : Type} (l : List α) (h : l.length = 46) : ∃ y0 y1 y2 y3 y4 y5 y6 y7 y8 y9 y10 y11 y12 y13 y14 y15 y16 y17 y18 y19 y20 y21 y22 y23 y24 y25 y26 y27 y28 y29 y30 y31 y32 y33 y34 y35 y36 y37 y38 y39 y40 y41 y42 y43 y44 y45, l = [y0, y1, y2, y3, y4, y5, y6, y7, y8, y9, y10, y11, y12, y13, y14, y15, y16, y17, y18, y19, y20, y21, y22, y23, y24, y25, y26, y27, y28, y29, y30, y31, y32, y33, y34, y35, y36, y37, y38, y39, y40, y41, y42, y43, y44, y45] := by
  obtain ⟨y0, l0, rfl, h0⟩ := len_succ h
  obtain ⟨y1, l1, rfl, h1⟩ := len_succ h0
  obtain ⟨y2, l2, rfl, h2⟩ := len_succ h1
  obtain ⟨y3, l3, rfl, h3⟩ := len_succ h2
  obtain ⟨y4, l4, rfl, h4⟩ := len_succ h3
  obtain ⟨y5, l5, rfl, h5⟩ := len_succ h4
  obtain ⟨y6, l6, rfl, h6⟩ := len_succ h5
  obtain ⟨y7, l7, rfl, h7⟩ := len_succ h6
  obtain ⟨y8, l8, rfl, h8⟩ := len_succ h7
  obtain ⟨y9, l9, rfl, h9⟩ := len_succ h8
  obtain ⟨y10, l10, rfl, h10⟩ := len_succ h9
  obtain ⟨y11, l11, rfl, h11⟩ := len_succ h10
  obtain ⟨y12, l12, rfl, h12⟩ := len_succ h11
  obtain ⟨y13, l13, rfl, h13⟩ := len_succ h12
  obtain ⟨y14, l14, rfl, h14⟩ := len_succ h13
  obtain ⟨y15, l15, rfl, h15⟩ := len_succ h14
  obtain ⟨y16, l16, rfl, h16⟩ := len_succ h15
  obtain ⟨y17, l17, rfl, h17⟩ := len_succ h16
  obtain ⟨y18, l18, rfl, h18⟩ := len_succ h17
  obtain ⟨y19, l19, rfl, h19⟩ := len_succ h18
  obtain ⟨y20, l20, rfl, h20⟩ := len_succ h19
  obtain ⟨y21, l21, rfl, h21⟩ := len_succ h20
  obtain ⟨y22, l22, rfl, h22⟩ := len_succ h21
  obtain ⟨y23, l23, rfl, h23⟩ := len_succ h22
  obtain ⟨y24, l24, rfl, h24⟩ := len_succ h23
  obtain ⟨y25, l25, rfl, h25⟩ := len_succ h24
  obtain ⟨y26, l26, rfl, h26⟩ := len_succ h25
  obtain ⟨y27, l27, rfl, h27⟩ := len_succ h26
  obtain ⟨y28, l28, rfl, h28⟩ := len_succ h27
  obtain ⟨y29, l29, rfl, h29⟩ := len_succ h28
  obtain ⟨y30, l30, rfl, h30⟩ := len_succ h29
  obtain ⟨y31, l31, rfl, h31⟩ := len_succ h30
  obtain ⟨y32, l32, rfl, h32⟩ := len_succ h31
  obtain ⟨y33, l33, rfl, h33⟩ := len_succ h32
  obtain ⟨y34, l34, rfl, h34⟩ := len_succ h33
  obtain ⟨y35, l35, rfl, h35⟩ := len_succ h34
  obtain ⟨y36, l36, rfl, h36⟩ := len_succ h35
  obtain ⟨y37, l37, rfl, h37⟩ := len_succ h36
  obtain ⟨y38, l38, rfl, h38⟩ := len_succ h37
  obtain ⟨y39, l39, rfl, h39⟩ := len_succ h38
  obtain ⟨y40, l40, rfl, h40⟩ := len_succ h39
  obtain ⟨y41, l41, rfl, h41⟩ := len_succ h40
  obtain ⟨y42, l42, rfl, h42⟩ := len_succ h41
  obtain ⟨y43, l43, rfl, h43⟩ := len_succ h42
  obtain ⟨y44, l44, rfl, h44⟩ := len_succ h43
  obtain ⟨y45, l45, rfl, h45⟩ := len_succ h44
  have := List.eq_nil_of_length_eq_zero h45
  subst this
  exact ⟨_, _, _, _, _, _, _, _, _, _, _, _, _, _, _, _, _, _, _, _, _, _, _, _, _, _, _, _, _, _, _, _, _, _, _, _, _, _, _, _, _, _, _, _, _, _, rfl⟩

set_option maxHeartbeats 8000000 in
theorem sameAll_any {w : World} {B n c c' : Nat} {A A' : Option Addr} {L L' : List RecM} (h : RecsRd w B A n L) (h' : RecsRd w B A' n L') (hB : B ≤ w.heap.size) (hn : n ≤ 1000000000000000000)
    (hs : ∀ (i : Nat) r s, L[i]? = some r → L'[i]? = some s → alikeM r s) :
    Calls Try.prog 13 #[.slice A n c, .slice A' n c', .bool false] w fun e w' => e = .returned (.bool true) ∧ Below w.heap.size w w' := by
  go_enter Try.func13, Try.ntmps13
  go_wp2
  go_loopw [7] (fun i wr => ∃ k : Nat, k ≤ n ∧ i = .int .i64 k ∧ Below w.heap.size w wr) (fun i _ => n - (intOf i).toNat)
  case atStart => exact ⟨0, Nat.zero_le _, rfl, Below.refl _ _⟩
  case round =>
    obtain ⟨k, hk, rfl, hbel⟩ := hrel
    by_cases hkn : k < n
    · obtain ⟨a, rfl, hab, hall⟩ := h.at_ (by omega)
      obtain ⟨a', rfl, hab', hall'⟩ := h'.at_ (by omega)
      have hkl : k < L.length := by have := h.len; omega
      have hkl' : k < L'.length := by have := h'.len; omega
      obtain ⟨D, dc, C, cc, hr⟩ := hall k L[k] (List.getElem?_eq_getElem hkl)
      obtain ⟨D', dc', C', cc', hr'⟩ := hall' k L'[k] (List.getElem?_eq_getElem hkl')
      have hal := hs k _ _ (List.getElem?_eq_getElem hkl) (List.getElem?_eq_getElem hkl')
      clear hall hall' hs h h'
      generalize L[k] = r at hr hal
      generalize L'[k] = s at hr' hal
      obtain ⟨i1, i2, i3⟩ := hal
      have l1 := hr.low
      have l2 := hr'.low
      have x1 := hr.rd
      have x2 := hr'.rd
      have hH : AllH w (a.add (k * 4)) (a'.add (k * 4)) _ _ _ _ _ _ _ _ wr := AllH.below ⟨Below.refl _ _, hr.c0, hr.c1, hr.c2, hr.c3, hr'.c0, hr'.c1, hr'.c2, hr'.c3⟩ (by omega) (by omega) hbel
      clear hr hr'
      have HI := Lib.hid (And.intro i1 (And.intro i2 i3))
      clear i1 i2 i3
      have hkn' : (k : Int) < (n : Int) := by omega
      go_wp2_with fail
      have hp : (a.add (k * 4)).block < w.heap.size := by omega
      have hq : (a'.add (k * 4)).block < w.heap.size := by omega
      clear l1 l2 hab hab' hkl hkl'
      refine wp_region_tab (S := (AllH w (a.add (k * 4)) (a'.add (k * 4)) (.int .i64 r.type) (.slice D r.data.length dc) (.slice C r.cuts.length cc) (.int .i64 r.at_) (.int .i64 s.type) (.slice D' s.data.length dc') (.slice C' s.cuts.length cc') (.int .i64 s.at_))) (E := EB' w) [(0, Is (.slice (some a) n c)), (1, Is (.slice (some a') n c')), (2, Is (.bool false)), (3, Is (undef)), (4, Is (undef)), (5, Is (undef)), (7, Is (.int .i64 k)), (8, Is (.slice (some a) n c)), (9, Is (.int .i64 n)), (10, Is (.slice (some a') n c')), (11, Is (.int .i64 n)), (12, Is (.bool false))] [(19, Is (.slice (some a) n c)), (20, Is (.int .i64 k)), (21, Is (.pointer (some (a.add (k * 4))))), (22, Is (.agg #[.int .i64 r.type, .slice D r.data.length dc, .slice C r.cuts.length cc, .int .i64 r.at_])), (23, Is (.agg #[.int .i64 r.type, .slice D r.data.length dc, .slice C r.cuts.length cc, .int .i64 r.at_])), (24, Is (.slice (some a') n c')), (25, Is (.int .i64 k)), (26, Is (.pointer (some (a'.add (k * 4))))), (27, Is (.agg #[.int .i64 s.type, .slice D' s.data.length dc', .slice C' s.cuts.length cc', .int .i64 s.at_])), (28, Is (.bool true)), (29, Is (.bool false)), (30, Is (.bool false)), (31, Is (.bool false)), (32, Is (.bool false)), (33, Is (undef)), (34, Is (undef)), (35, Is (undef)), (36, Is (undef)), (37, Is (undef)), (38, Is (undef)), (39, Is (undef)), (40, Is (undef)), (41, Is (undef)), (42, Is (undef)), (43, Is (undef)), (44, Is (.bool false)), (45, Is (.bool false))] [([0], none), ([7], none), ([19, 20], none), ([21], none), ([22], none), ([1], none), ([7], none), ([24, 25], none), ([26], none), ([23, 27], none), ([28], none), ([29], none), ([2, 30], some (30, false)), ([31, 30], some (30, false)), ([0, 32], some (32, true)), ([7, 32], some (32, true)), ([33, 34, 32], some (32, true)), ([35, 32], some (32, true)), ([36, 32], some (32, true)), ([1, 32], some (32, true)), ([7, 32], some (32, true)), ([38, 39, 32], some (32, true)), ([40, 32], some (32, true)), ([41, 32], some (32, true)), ([37, 42, 32], some (32, true)), ([32, 43, 30], some (30, false)), ([30, 44], none)]
        (by as_aux_lemma => kernel_rfl) ?_ ?_ ?_ ⟨stable_is _ _, stable_is _ _, stable_is _ _, stable_is _ _, stable_is _ _, stable_is _ _, stable_is _ _, stable_is _ _, stable_is _ _, stable_is _ _, stable_is _ _, stable_is _ _, stable_is _ _, stable_is _ _, stable_is _ _, stable_is _ _, stable_is _ _, stable_is _ _, stable_is _ _, stable_is _ _, stable_is _ _, stable_is _ _, stable_is _ _, stable_is _ _, stable_is _ _, stable_is _ _, stable_is _ _, stable_is _ _, stable_is _ _, stable_is _ _, stable_is _ _, stable_is _ _, stable_is _ _, stable_is _ _, stable_is _ _, stable_is _ _, stable_is _ _, stable_is _ _, stable_is _ _, trivial⟩ ?_ (AllH.next hH hp hq (Below.refl _ _).drew) ?_ ?_
      · as_aux_lemma => kernel_rfl
      · as_aux_lemma => kernel_rfl
      · as_aux_lemma => kernel_rfl
      · exact ⟨rfl, rfl, rfl, rfl, rfl, rfl, rfl, rfl, rfl, rfl, rfl, rfl, trivial⟩
      · clear hH
        refine ⟨?_, ?_, ?_, ?_, ?_, ?_, ?_, ?_, ?_, ?_, ?_, ?_, ?_, ?_, ?_, ?_, ?_, ?_, ?_, ?_, ?_, ?_, ?_, ?_, ?_, ?_, ?_, trivial⟩
        · as_aux_lemma =>
            intro x W hS hL
            have e0 : x.tmps.getD 0 undef = .slice (some a) n c := hL.1
            clear hL
            go_simp
            exact ⟨⟨fun d hd => by injection hd with hd; subst hd; rfl, fun h => by cases h⟩, hS, Below.refl _ _⟩
        · as_aux_lemma =>
            intro x W hS hL
            have e7 : x.tmps.getD 7 undef = .int .i64 k := hL.1
            clear hL
            go_simp
            exact ⟨⟨fun d hd => by injection hd with hd; subst hd; rfl, fun h => by cases h⟩, hS, Below.refl _ _⟩
        · as_aux_lemma =>
            intro x W hS hL
            have e19 : x.tmps.getD 19 undef = .slice (some a) n c := hL.1
            have e20 : x.tmps.getD 20 undef = .int .i64 k := hL.2.1
            clear hL
            go_simp
            exact ⟨⟨fun d hd => by injection hd with hd; subst hd; rfl, fun h => by cases h⟩, hS, Below.refl _ _⟩
        · as_aux_lemma =>
            intro x W hS hL
            have e21 : x.tmps.getD 21 undef = .pointer (some (a.add (k * 4))) := hL.1
            clear hL
            have hH2 := hS
            obtain ⟨_, f0, f1, f2, f3, g0, g1, g2, g3⟩ := hH2
            go_simp
            exact ⟨⟨fun d hd => by injection hd with hd; subst hd; rfl, fun h => by cases h⟩, hS, Below.refl _ _⟩
        · as_aux_lemma =>
            intro x W hS hL
            have e22 : x.tmps.getD 22 undef = .agg #[.int .i64 r.type, .slice D r.data.length dc, .slice C r.cuts.length cc, .int .i64 r.at_] := hL.1
            clear hL
            go_simp
            refine of_any.mono ?_
            rintro e W' ⟨rfl, hb⟩
            exact ⟨_, rfl, ⟨fun d hd => by injection hd with hd; subst hd; rfl, fun h => by cases h⟩, AllH.next hS hp hq hb, hb.mono (AllH.size hS)⟩
        · as_aux_lemma =>
            intro x W hS hL
            have e1 : x.tmps.getD 1 undef = .slice (some a') n c' := hL.1
            clear hL
            go_simp
            exact ⟨⟨fun d hd => by injection hd with hd; subst hd; rfl, fun h => by cases h⟩, hS, Below.refl _ _⟩
        · as_aux_lemma =>
            intro x W hS hL
            have e7 : x.tmps.getD 7 undef = .int .i64 k := hL.1
            clear hL
            go_simp
            exact ⟨⟨fun d hd => by injection hd with hd; subst hd; rfl, fun h => by cases h⟩, hS, Below.refl _ _⟩
        · as_aux_lemma =>
            intro x W hS hL
            have e24 : x.tmps.getD 24 undef = .slice (some a') n c' := hL.1
            have e25 : x.tmps.getD 25 undef = .int .i64 k := hL.2.1
            clear hL
            go_simp
            exact ⟨⟨fun d hd => by injection hd with hd; subst hd; rfl, fun h => by cases h⟩, hS, Below.refl _ _⟩
        · as_aux_lemma =>
            intro x W hS hL
            have e26 : x.tmps.getD 26 undef = .pointer (some (a'.add (k * 4))) := hL.1
            clear hL
            have hH2 := hS
            obtain ⟨_, f0, f1, f2, f3, g0, g1, g2, g3⟩ := hH2
            go_simp
            exact ⟨⟨fun d hd => by injection hd with hd; subst hd; rfl, fun h => by cases h⟩, hS, Below.refl _ _⟩
        · as_aux_lemma =>
            intro x W hS hL
            have e23 : x.tmps.getD 23 undef = .agg #[.int .i64 r.type, .slice D r.data.length dc, .slice C r.cuts.length cc, .int .i64 r.at_] := hL.1
            have e27 : x.tmps.getD 27 undef = .agg #[.int .i64 s.type, .slice D' s.data.length dc', .slice C' s.cuts.length cc', .int .i64 s.at_] := hL.2.1
            clear hL
            go_simp
            refine (AllH.same hS x1 x2 hB HI.out).mono ?_
            rintro e W' ⟨rfl, hb⟩
            exact ⟨_, rfl, ⟨fun d hd => by injection hd with hd; subst hd; rfl, fun h => by cases h⟩, AllH.next hS hp hq hb, hb.mono (AllH.size hS)⟩
        · as_aux_lemma =>
            intro x W hS hL
            have e28 : x.tmps.getD 28 undef = .bool true := hL.1
            clear hL
            go_simp
            exact ⟨⟨fun d hd => by injection hd with hd; subst hd; rfl, fun h => by cases h⟩, hS, Below.refl _ _⟩
        · as_aux_lemma =>
            intro x W hS hL
            have e29 : x.tmps.getD 29 undef = .bool false := hL.1
            clear hL
            go_simp
            exact ⟨⟨fun d hd => by injection hd with hd; subst hd; rfl, fun h => by cases h⟩, hS, Below.refl _ _⟩
        · as_aux_lemma =>
            intro x W hS hL
            have e2 : x.tmps.getD 2 undef = .bool false := hL.1
            have e30 : x.tmps.getD 30 undef = .bool false := hL.2.1
            clear hL
            refine ⟨false, e30, ?_⟩
            rw [if_pos rfl]
            go_simp
            exact ⟨⟨fun d hd => by injection hd with hd; subst hd; rfl, fun h => by cases h⟩, hS, Below.refl _ _⟩
        · as_aux_lemma =>
            intro x W hS hL
            have e31 : x.tmps.getD 31 undef = .bool false := hL.1
            have e30 : x.tmps.getD 30 undef = .bool false := hL.2.1
            clear hL
            refine ⟨false, e30, ?_⟩
            rw [if_pos rfl]
            go_simp
            exact ⟨⟨fun d hd => by injection hd with hd; subst hd; rfl, fun h => by cases h⟩, hS, Below.refl _ _⟩
        · as_aux_lemma =>
            intro x W hS hL
            have e0 : x.tmps.getD 0 undef = .slice (some a) n c := hL.1
            have e32 : x.tmps.getD 32 undef = .bool false := hL.2.1
            clear hL
            refine ⟨false, e32, ?_⟩
            rw [if_neg (by decide)]
            exact ⟨⟨fun d hd => by injection hd with hd; subst hd; rfl, fun h => by cases h⟩, Below.refl _ _⟩
        · as_aux_lemma =>
            intro x W hS hL
            have e7 : x.tmps.getD 7 undef = .int .i64 k := hL.1
            have e32 : x.tmps.getD 32 undef = .bool false := hL.2.1
            clear hL
            refine ⟨false, e32, ?_⟩
            rw [if_neg (by decide)]
            exact ⟨⟨fun d hd => by injection hd with hd; subst hd; rfl, fun h => by cases h⟩, Below.refl _ _⟩
        · as_aux_lemma =>
            intro x W hS hL
            have e33 : x.tmps.getD 33 undef = undef := hL.1
            have e34 : x.tmps.getD 34 undef = undef := hL.2.1
            have e32 : x.tmps.getD 32 undef = .bool false := hL.2.2.1
            clear hL
            refine ⟨false, e32, ?_⟩
            rw [if_neg (by decide)]
            exact ⟨⟨fun d hd => by injection hd with hd; subst hd; rfl, fun h => by cases h⟩, Below.refl _ _⟩
        · as_aux_lemma =>
            intro x W hS hL
            have e35 : x.tmps.getD 35 undef = undef := hL.1
            have e32 : x.tmps.getD 32 undef = .bool false := hL.2.1
            clear hL
            refine ⟨false, e32, ?_⟩
            rw [if_neg (by decide)]
            exact ⟨⟨fun d hd => by injection hd with hd; subst hd; rfl, fun h => by cases h⟩, Below.refl _ _⟩
        · as_aux_lemma =>
            intro x W hS hL
            have e36 : x.tmps.getD 36 undef = undef := hL.1
            have e32 : x.tmps.getD 32 undef = .bool false := hL.2.1
            clear hL
            refine ⟨false, e32, ?_⟩
            rw [if_neg (by decide)]
            exact ⟨⟨fun d hd => by injection hd with hd; subst hd; rfl, fun h => by cases h⟩, Below.refl _ _⟩
        · as_aux_lemma =>
            intro x W hS hL
            have e1 : x.tmps.getD 1 undef = .slice (some a') n c' := hL.1
            have e32 : x.tmps.getD 32 undef = .bool false := hL.2.1
            clear hL
            refine ⟨false, e32, ?_⟩
            rw [if_neg (by decide)]
            exact ⟨⟨fun d hd => by injection hd with hd; subst hd; rfl, fun h => by cases h⟩, Below.refl _ _⟩
        · as_aux_lemma =>
            intro x W hS hL
            have e7 : x.tmps.getD 7 undef = .int .i64 k := hL.1
            have e32 : x.tmps.getD 32 undef = .bool false := hL.2.1
            clear hL
            refine ⟨false, e32, ?_⟩
            rw [if_neg (by decide)]
            exact ⟨⟨fun d hd => by injection hd with hd; subst hd; rfl, fun h => by cases h⟩, Below.refl _ _⟩
        · as_aux_lemma =>
            intro x W hS hL
            have e38 : x.tmps.getD 38 undef = undef := hL.1
            have e39 : x.tmps.getD 39 undef = undef := hL.2.1
            have e32 : x.tmps.getD 32 undef = .bool false := hL.2.2.1
            clear hL
            refine ⟨false, e32, ?_⟩
            rw [if_neg (by decide)]
            exact ⟨⟨fun d hd => by injection hd with hd; subst hd; rfl, fun h => by cases h⟩, Below.refl _ _⟩
        · as_aux_lemma =>
            intro x W hS hL
            have e40 : x.tmps.getD 40 undef = undef := hL.1
            have e32 : x.tmps.getD 32 undef = .bool false := hL.2.1
            clear hL
            refine ⟨false, e32, ?_⟩
            rw [if_neg (by decide)]
            exact ⟨⟨fun d hd => by injection hd with hd; subst hd; rfl, fun h => by cases h⟩, Below.refl _ _⟩
        · as_aux_lemma =>
            intro x W hS hL
            have e41 : x.tmps.getD 41 undef = undef := hL.1
            have e32 : x.tmps.getD 32 undef = .bool false := hL.2.1
            clear hL
            refine ⟨false, e32, ?_⟩
            rw [if_neg (by decide)]
            exact ⟨⟨fun d hd => by injection hd with hd; subst hd; rfl, fun h => by cases h⟩, Below.refl _ _⟩
        · as_aux_lemma =>
            intro x W hS hL
            have e37 : x.tmps.getD 37 undef = undef := hL.1
            have e42 : x.tmps.getD 42 undef = undef := hL.2.1
            have e32 : x.tmps.getD 32 undef = .bool false := hL.2.2.1
            clear hL
            refine ⟨false, e32, ?_⟩
            rw [if_neg (by decide)]
            exact ⟨⟨fun d hd => by injection hd with hd; subst hd; rfl, fun h => by cases h⟩, Below.refl _ _⟩
        · as_aux_lemma =>
            intro x W hS hL
            have e32 : x.tmps.getD 32 undef = .bool false := hL.1
            have e43 : x.tmps.getD 43 undef = undef := hL.2.1
            have e30 : x.tmps.getD 30 undef = .bool false := hL.2.2.1
            clear hL
            refine ⟨false, e30, ?_⟩
            rw [if_pos rfl]
            go_simp
            exact ⟨⟨fun d hd => by injection hd with hd; subst hd; rfl, fun h => by cases h⟩, hS, Below.refl _ _⟩
        · as_aux_lemma =>
            intro x W hS hL
            have e30 : x.tmps.getD 30 undef = .bool false := hL.1
            have e44 : x.tmps.getD 44 undef = .bool false := hL.2.1
            clear hL
            go_simp
            exact ⟨⟨fun d hd => by injection hd with hd; subst hd; rfl, fun h => by cases h⟩, hS, Below.refl _ _⟩
      · intro x W hd hsz hT _ hS
        obtain ⟨⟨tl⟩, df⟩ := x
        simp only [List.size_toArray] at hsz
        have hd' : df = [] := hd
        subst hd'
        clear hd
        obtain ⟨y0, y1, y2, y3, y4, y5, y6, y7, y8, y9, y10, y11, y12, y13, y14, y15, y16, y17, y18, y19, y20, y21, y22, y23, y24, y25, y26, y27, y28, y29, y30, y31, y32, y33, y34, y35, y36, y37, y38, y39, y40, y41, y42, y43, y44, y45, rfl⟩ := list46 tl hsz
        have e0 : y0 = .slice (some a) n c := hT 0 (by simp)
        have e1 : y1 = .slice (some a') n c' := hT 1 (by simp)
        have e2 : y2 = .bool false := hT 2 (by simp)
        have e3 : y3 = undef := hT 3 (by simp)
        have e4 : y4 = undef := hT 4 (by simp)
        have e5 : y5 = undef := hT 5 (by simp)
        have e7 : y7 = .int .i64 k := hT 7 (by simp)
        have e8 : y8 = .slice (some a) n c := hT 8 (by simp)
        have e9 : y9 = .int .i64 n := hT 9 (by simp)
        have e10 : y10 = .slice (some a') n c' := hT 10 (by simp)
        have e11 : y11 = .int .i64 n := hT 11 (by simp)
        have e12 : y12 = .bool false := hT 12 (by simp)
        have e45 : y45 = .bool false := hT 45 (by simp)
        clear hT
        subst e0 e1 e2 e3 e4 e5 e7 e8 e9 e10 e11 e12 e45
        have hb := hS.1
        go_wp2
        go_roundw
        case rel => exact ⟨k + 1, by omega, by go_num, hb⟩
        case measure => simp [intOf]; omega
    · have hkn' : ¬ (k : Int) < (n : Int) := by omega
      clear h h' hs
      go_wp2
      go_ret
      exact ⟨rfl, hbel⟩
end Go.Proofs.Ytliidkampllddaa
