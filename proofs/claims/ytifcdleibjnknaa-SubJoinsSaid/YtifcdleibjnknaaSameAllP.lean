/- cashbooklaw1.SameAll (of rows alike, places too) by its contract. Conditions: the rows read as lists. -/
import Derived.Test.YtifcdleibjnknaaSameAll
namespace Go.Proofs.Ytifcdleibjnknaa
open Go.RowKit

set_option maxHeartbeats 8000000 in
theorem sameAllP_any {w : World} {B n c c' : Nat} {A A' : Option Addr} {L L' : List RecM} (h : RecsRd w B A n L) (h' : RecsRd w B A' n L') (hB : B ≤ w.heap.size) (hn : n ≤ 1000000000000000000)
    (hs : ∀ (i : Nat) r s, L[i]? = some r → L'[i]? = some s → alikeM r s ∧ r.at_ = s.at_) :
    Calls Try.prog 13 #[.slice A n c, .slice A' n c', .bool true] w fun e w' => e = .returned (.bool true) ∧ Below w.heap.size w w' := by
  go_enter Try.func13, Try.ntmps13
  go_wp2
  go_loopw [7] (fun i wr => ∃ k : Nat, k ≤ n ∧ i = .int .i64 k ∧ Below w.heap.size w wr) (fun i _ => n - (intOf i).toNat)
  case atStart => exact ⟨0, Nat.zero_le _, rfl, Below.refl _ _⟩
  case round =>
    obtain ⟨k, hk, rfl, hbel⟩ := hrel
    by_cases hkn : k < n
    · obtain ⟨a, rfl, hab, hall⟩ := h.at_ (by omega)
      obtain ⟨a', rfl, hab', hall'⟩ := h'.at_ (by omega)
      have hkl : k < L.length := by have := h.len; omega
      have hkl' : k < L'.length := by have := h'.len; omega
      obtain ⟨D, dc, C, cc, hr⟩ := hall k L[k] (List.getElem?_eq_getElem hkl)
      obtain ⟨D', dc', C', cc', hr'⟩ := hall' k L'[k] (List.getElem?_eq_getElem hkl')
      have hal := hs k _ _ (List.getElem?_eq_getElem hkl) (List.getElem?_eq_getElem hkl')
      clear hall hall' hs h h'
      generalize L[k] = r at hr hal
      generalize L'[k] = s at hr' hal
      obtain ⟨⟨i1, i2, i3⟩, i4⟩ := hal
      have hb43 : (r.at_ != s.at_) = false := by simp [i4]
      clear i4
      have l1 := hr.low
      have l2 := hr'.low
      have x1 := hr.rd
      have x2 := hr'.rd
      have hH : AllH w (a.add (k * 4)) (a'.add (k * 4)) _ _ _ _ _ _ _ _ wr := AllH.below ⟨Below.refl _ _, hr.c0, hr.c1, hr.c2, hr.c3, hr'.c0, hr'.c1, hr'.c2, hr'.c3⟩ (by omega) (by omega) hbel
      clear hr hr'
      have HI := Lib.hid (And.intro i1 (And.intro i2 i3))
      clear i1 i2 i3
      have hkn' : (k : Int) < (n : Int) := by omega
      go_wp2_with fail
      have hp : (a.add (k * 4)).block < w.heap.size := by omega
      have hq : (a'.add (k * 4)).block < w.heap.size := by omega
      clear l1 l2 hab hab' hkl hkl'
      refine wp_region_tab (S := (AllH w (a.add (k * 4)) (a'.add (k * 4)) (.int .i64 r.type) (.slice D r.data.length dc) (.slice C r.cuts.length cc) (.int .i64 r.at_) (.int .i64 s.type) (.slice D' s.data.length dc') (.slice C' s.cuts.length cc') (.int .i64 s.at_))) (E := EB' w) [(0, Is (.slice (some a) n c)), (1, Is (.slice (some a') n c')), (2, Is (.bool true)), (3, Is (undef)), (4, Is (undef)), (5, Is (undef)), (7, Is (.int .i64 k)), (8, Is (.slice (some a) n c)), (9, Is (.int .i64 n)), (10, Is (.slice (some a') n c')), (11, Is (.int .i64 n)), (12, Is (.bool false))] [(19, Is (.slice (some a) n c)), (20, Is (.int .i64 k)), (21, Is (.pointer (some (a.add (k * 4))))), (22, Is (.agg #[.int .i64 r.type, .slice D r.data.length dc, .slice C r.cuts.length cc, .int .i64 r.at_])), (23, Is (.agg #[.int .i64 r.type, .slice D r.data.length dc, .slice C r.cuts.length cc, .int .i64 r.at_])), (24, Is (.slice (some a') n c')), (25, Is (.int .i64 k)), (26, Is (.pointer (some (a'.add (k * 4))))), (27, Is (.agg #[.int .i64 s.type, .slice D' s.data.length dc', .slice C' s.cuts.length cc', .int .i64 s.at_])), (28, Is (.bool true)), (29, Is (.bool false)), (30, Is (.bool false)), (31, Is (.bool true)), (32, Is (.bool true)), (33, Is (.slice (some a) n c)), (34, Is (.int .i64 k)), (35, Is (.pointer (some (a.add (k * 4))))), (36, Is (.pointer (some ⟨(a.add (k * 4)).block, (a.add (k * 4)).off + 3, none⟩))), (37, Is (.int .i64 r.at_)), (38, Is (.slice (some a') n c')), (39, Is (.int .i64 k)), (40, Is (.pointer (some (a'.add (k * 4))))), (41, Is (.pointer (some ⟨(a'.add (k * 4)).block, (a'.add (k * 4)).off + 3, none⟩))), (42, Is (.int .i64 s.at_)), (43, Is (.bool false)), (44, Is (.bool false)), (45, Is (.bool false))] [([0], none), ([7], none), ([19, 20], none), ([21], none), ([22], none), ([1], none), ([7], none), ([24, 25], none), ([26], none), ([23, 27], none), ([28], none), ([29], none), ([2, 30], some (30, false)), ([31, 30], some (30, false)), ([0, 32], some (32, true)), ([7, 32], some (32, true)), ([33, 34, 32], some (32, true)), ([35, 32], some (32, true)), ([36, 32], some (32, true)), ([1, 32], some (32, true)), ([7, 32], some (32, true)), ([38, 39, 32], some (32, true)), ([40, 32], some (32, true)), ([41, 32], some (32, true)), ([37, 42, 32], some (32, true)), ([32, 43, 30], some (30, false)), ([30, 44], none)]
        (by as_aux_lemma => kernel_rfl) ?_ ?_ ?_ ⟨stable_is _ _, stable_is _ _, stable_is _ _, stable_is _ _, stable_is _ _, stable_is _ _, stable_is _ _, stable_is _ _, stable_is _ _, stable_is _ _, stable_is _ _, stable_is _ _, stable_is _ _, stable_is _ _, stable_is _ _, stable_is _ _, stable_is _ _, stable_is _ _, stable_is _ _, stable_is _ _, stable_is _ _, stable_is _ _, stable_is _ _, stable_is _ _, stable_is _ _, stable_is _ _, stable_is _ _, stable_is _ _, stable_is _ _, stable_is _ _, stable_is _ _, stable_is _ _, stable_is _ _, stable_is _ _, stable_is _ _, stable_is _ _, stable_is _ _, stable_is _ _, stable_is _ _, trivial⟩ ?_ (AllH.next hH hp hq (Below.refl _ _).drew) ?_ ?_
      · as_aux_lemma => kernel_rfl
      · as_aux_lemma => kernel_rfl
      · as_aux_lemma => kernel_rfl
      · exact ⟨rfl, rfl, rfl, rfl, rfl, rfl, rfl, rfl, rfl, rfl, rfl, rfl, trivial⟩
      · clear hH
        refine ⟨?_, ?_, ?_, ?_, ?_, ?_, ?_, ?_, ?_, ?_, ?_, ?_, ?_, ?_, ?_, ?_, ?_, ?_, ?_, ?_, ?_, ?_, ?_, ?_, ?_, ?_, ?_, trivial⟩
        · as_aux_lemma =>
            intro x W hS hL
            have e0 : x.tmps.getD 0 undef = .slice (some a) n c := hL.1
            clear hL
            go_simp
            exact ⟨⟨fun d hd => by injection hd with hd; subst hd; rfl, fun h => by cases h⟩, hS, Below.refl _ _⟩
        · as_aux_lemma =>
            intro x W hS hL
            have e7 : x.tmps.getD 7 undef = .int .i64 k := hL.1
            clear hL
            go_simp
            exact ⟨⟨fun d hd => by injection hd with hd; subst hd; rfl, fun h => by cases h⟩, hS, Below.refl _ _⟩
        · as_aux_lemma =>
            intro x W hS hL
            have e19 : x.tmps.getD 19 undef = .slice (some a) n c := hL.1
            have e20 : x.tmps.getD 20 undef = .int .i64 k := hL.2.1
            clear hL
            go_simp
            exact ⟨⟨fun d hd => by injection hd with hd; subst hd; rfl, fun h => by cases h⟩, hS, Below.refl _ _⟩
        · as_aux_lemma =>
            intro x W hS hL
            have e21 : x.tmps.getD 21 undef = .pointer (some (a.add (k * 4))) := hL.1
            clear hL
            have hH2 := hS
            obtain ⟨_, f0, f1, f2, f3, g0, g1, g2, g3⟩ := hH2
            go_simp
            exact ⟨⟨fun d hd => by injection hd with hd; subst hd; rfl, fun h => by cases h⟩, hS, Below.refl _ _⟩
        · as_aux_lemma =>
            intro x W hS hL
            have e22 : x.tmps.getD 22 undef = .agg #[.int .i64 r.type, .slice D r.data.length dc, .slice C r.cuts.length cc, .int .i64 r.at_] := hL.1
            clear hL
            go_simp
            refine of_any.mono ?_
            rintro e W' ⟨rfl, hb⟩
            exact ⟨_, rfl, ⟨fun d hd => by injection hd with hd; subst hd; rfl, fun h => by cases h⟩, AllH.next hS hp hq hb, hb.mono (AllH.size hS)⟩
        · as_aux_lemma =>
            intro x W hS hL
            have e1 : x.tmps.getD 1 undef = .slice (some a') n c' := hL.1
            clear hL
            go_simp
            exact ⟨⟨fun d hd => by injection hd with hd; subst hd; rfl, fun h => by cases h⟩, hS, Below.refl _ _⟩
        · as_aux_lemma =>
            intro x W hS hL
            have e7 : x.tmps.getD 7 undef = .int .i64 k := hL.1
            clear hL
            go_simp
            exact ⟨⟨fun d hd => by injection hd with hd; subst hd; rfl, fun h => by cases h⟩, hS, Below.refl _ _⟩
        · as_aux_lemma =>
            intro x W hS hL
            have e24 : x.tmps.getD 24 undef = .slice (some a') n c' := hL.1
            have e25 : x.tmps.getD 25 undef = .int .i64 k := hL.2.1
            clear hL
            go_simp
            exact ⟨⟨fun d hd => by injection hd with hd; subst hd; rfl, fun h => by cases h⟩, hS, Below.refl _ _⟩
        · as_aux_lemma =>
            intro x W hS hL
            have e26 : x.tmps.getD 26 undef = .pointer (some (a'.add (k * 4))) := hL.1
            clear hL
            have hH2 := hS
            obtain ⟨_, f0, f1, f2, f3, g0, g1, g2, g3⟩ := hH2
            go_simp
            exact ⟨⟨fun d hd => by injection hd with hd; subst hd; rfl, fun h => by cases h⟩, hS, Below.refl _ _⟩
        · as_aux_lemma =>
            intro x W hS hL
            have e23 : x.tmps.getD 23 undef = .agg #[.int .i64 r.type, .slice D r.data.length dc, .slice C r.cuts.length cc, .int .i64 r.at_] := hL.1
            have e27 : x.tmps.getD 27 undef = .agg #[.int .i64 s.type, .slice D' s.data.length dc', .slice C' s.cuts.length cc', .int .i64 s.at_] := hL.2.1
            clear hL
            go_simp
            refine (AllH.same hS x1 x2 hB HI.out).mono ?_
            rintro e W' ⟨rfl, hb⟩
            exact ⟨_, rfl, ⟨fun d hd => by injection hd with hd; subst hd; rfl, fun h => by cases h⟩, AllH.next hS hp hq hb, hb.mono (AllH.size hS)⟩
        · as_aux_lemma =>
            intro x W hS hL
            have e28 : x.tmps.getD 28 undef = .bool true := hL.1
            clear hL
            go_simp
            exact ⟨⟨fun d hd => by injection hd with hd; subst hd; rfl, fun h => by cases h⟩, hS, Below.refl _ _⟩
        · as_aux_lemma =>
            intro x W hS hL
            have e29 : x.tmps.getD 29 undef = .bool false := hL.1
            clear hL
            go_simp
            exact ⟨⟨fun d hd => by injection hd with hd; subst hd; rfl, fun h => by cases h⟩, hS, Below.refl _ _⟩
        · as_aux_lemma =>
            intro x W hS hL
            have e2 : x.tmps.getD 2 undef = .bool true := hL.1
            have e30 : x.tmps.getD 30 undef = .bool false := hL.2.1
            clear hL
            refine ⟨false, e30, ?_⟩
            rw [if_pos rfl]
            go_simp
            exact ⟨⟨fun d hd => by injection hd with hd; subst hd; rfl, fun h => by cases h⟩, hS, Below.refl _ _⟩
        · as_aux_lemma =>
            intro x W hS hL
            have e31 : x.tmps.getD 31 undef = .bool true := hL.1
            have e30 : x.tmps.getD 30 undef = .bool false := hL.2.1
            clear hL
            refine ⟨false, e30, ?_⟩
            rw [if_pos rfl]
            go_simp
            exact ⟨⟨fun d hd => by injection hd with hd; subst hd; rfl, fun h => by cases h⟩, hS, Below.refl _ _⟩
        · as_aux_lemma =>
            intro x W hS hL
            have e0 : x.tmps.getD 0 undef = .slice (some a) n c := hL.1
            have e32 : x.tmps.getD 32 undef = .bool true := hL.2.1
            clear hL
            refine ⟨true, e32, ?_⟩
            rw [if_pos rfl]
            go_simp
            exact ⟨⟨fun d hd => by injection hd with hd; subst hd; rfl, fun h => by cases h⟩, hS, Below.refl _ _⟩
        · as_aux_lemma =>
            intro x W hS hL
            have e7 : x.tmps.getD 7 undef = .int .i64 k := hL.1
            have e32 : x.tmps.getD 32 undef = .bool true := hL.2.1
            clear hL
            refine ⟨true, e32, ?_⟩
            rw [if_pos rfl]
            go_simp
            exact ⟨⟨fun d hd => by injection hd with hd; subst hd; rfl, fun h => by cases h⟩, hS, Below.refl _ _⟩
        · as_aux_lemma =>
            intro x W hS hL
            have e33 : x.tmps.getD 33 undef = .slice (some a) n c := hL.1
            have e34 : x.tmps.getD 34 undef = .int .i64 k := hL.2.1
            have e32 : x.tmps.getD 32 undef = .bool true := hL.2.2.1
            clear hL
            refine ⟨true, e32, ?_⟩
            rw [if_pos rfl]
            go_simp
            exact ⟨⟨fun d hd => by injection hd with hd; subst hd; rfl, fun h => by cases h⟩, hS, Below.refl _ _⟩
        · as_aux_lemma =>
            intro x W hS hL
            have e35 : x.tmps.getD 35 undef = .pointer (some (a.add (k * 4))) := hL.1
            have e32 : x.tmps.getD 32 undef = .bool true := hL.2.1
            clear hL
            refine ⟨true, e32, ?_⟩
            rw [if_pos rfl]
            go_simp
            exact ⟨⟨fun d hd => by injection hd with hd; subst hd; rfl, fun h => by cases h⟩, hS, Below.refl _ _⟩
        · as_aux_lemma =>
            intro x W hS hL
            have e36 : x.tmps.getD 36 undef = .pointer (some ⟨(a.add (k * 4)).block, (a.add (k * 4)).off + 3, none⟩) := hL.1
            have e32 : x.tmps.getD 32 undef = .bool true := hL.2.1
            clear hL
            refine ⟨true, e32, ?_⟩
            rw [if_pos rfl]
            have hH2 := hS
            obtain ⟨_, f0, f1, f2, f3, g0, g1, g2, g3⟩ := hH2
            go_simp
            exact ⟨⟨fun d hd => by injection hd with hd; subst hd; rfl, fun h => by cases h⟩, hS, Below.refl _ _⟩
        · as_aux_lemma =>
            intro x W hS hL
            have e1 : x.tmps.getD 1 undef = .slice (some a') n c' := hL.1
            have e32 : x.tmps.getD 32 undef = .bool true := hL.2.1
            clear hL
            refine ⟨true, e32, ?_⟩
            rw [if_pos rfl]
            go_simp
            exact ⟨⟨fun d hd => by injection hd with hd; subst hd; rfl, fun h => by cases h⟩, hS, Below.refl _ _⟩
        · as_aux_lemma =>
            intro x W hS hL
            have e7 : x.tmps.getD 7 undef = .int .i64 k := hL.1
            have e32 : x.tmps.getD 32 undef = .bool true := hL.2.1
            clear hL
            refine ⟨true, e32, ?_⟩
            rw [if_pos rfl]
            go_simp
            exact ⟨⟨fun d hd => by injection hd with hd; subst hd; rfl, fun h => by cases h⟩, hS, Below.refl _ _⟩
        · as_aux_lemma =>
            intro x W hS hL
            have e38 : x.tmps.getD 38 undef = .slice (some a') n c' := hL.1
            have e39 : x.tmps.getD 39 undef = .int .i64 k := hL.2.1
            have e32 : x.tmps.getD 32 undef = .bool true := hL.2.2.1
            clear hL
            refine ⟨true, e32, ?_⟩
            rw [if_pos rfl]
            go_simp
            exact ⟨⟨fun d hd => by injection hd with hd; subst hd; rfl, fun h => by cases h⟩, hS, Below.refl _ _⟩
        · as_aux_lemma =>
            intro x W hS hL
            have e40 : x.tmps.getD 40 undef = .pointer (some (a'.add (k * 4))) := hL.1
            have e32 : x.tmps.getD 32 undef = .bool true := hL.2.1
            clear hL
            refine ⟨true, e32, ?_⟩
            rw [if_pos rfl]
            go_simp
            exact ⟨⟨fun d hd => by injection hd with hd; subst hd; rfl, fun h => by cases h⟩, hS, Below.refl _ _⟩
        · as_aux_lemma =>
            intro x W hS hL
            have e41 : x.tmps.getD 41 undef = .pointer (some ⟨(a'.add (k * 4)).block, (a'.add (k * 4)).off + 3, none⟩) := hL.1
            have e32 : x.tmps.getD 32 undef = .bool true := hL.2.1
            clear hL
            refine ⟨true, e32, ?_⟩
            rw [if_pos rfl]
            have hH2 := hS
            obtain ⟨_, f0, f1, f2, f3, g0, g1, g2, g3⟩ := hH2
            go_simp
            exact ⟨⟨fun d hd => by injection hd with hd; subst hd; rfl, fun h => by cases h⟩, hS, Below.refl _ _⟩
        · as_aux_lemma =>
            intro x W hS hL
            have e37 : x.tmps.getD 37 undef = .int .i64 r.at_ := hL.1
            have e42 : x.tmps.getD 42 undef = .int .i64 s.at_ := hL.2.1
            have e32 : x.tmps.getD 32 undef = .bool true := hL.2.2.1
            clear hL
            refine ⟨true, e32, ?_⟩
            rw [if_pos rfl]
            go_simp
            exact ⟨⟨fun d hd => by injection hd with hd; subst hd; rfl, fun h => by cases h⟩, hS, Below.refl _ _⟩
        · as_aux_lemma =>
            intro x W hS hL
            have e32 : x.tmps.getD 32 undef = .bool true := hL.1
            have e43 : x.tmps.getD 43 undef = .bool false := hL.2.1
            have e30 : x.tmps.getD 30 undef = .bool false := hL.2.2.1
            clear hL
            refine ⟨false, e30, ?_⟩
            rw [if_pos rfl]
            go_simp
            exact ⟨⟨fun d hd => by injection hd with hd; subst hd; rfl, fun h => by cases h⟩, hS, Below.refl _ _⟩
        · as_aux_lemma =>
            intro x W hS hL
            have e30 : x.tmps.getD 30 undef = .bool false := hL.1
            have e44 : x.tmps.getD 44 undef = .bool false := hL.2.1
            clear hL
            go_simp
            exact ⟨⟨fun d hd => by injection hd with hd; subst hd; rfl, fun h => by cases h⟩, hS, Below.refl _ _⟩
      · intro x W hd hsz hT _ hS
        obtain ⟨⟨tl⟩, df⟩ := x
        simp only [List.size_toArray] at hsz
        have hd' : df = [] := hd
        subst hd'
        clear hd
        obtain ⟨y0, y1, y2, y3, y4, y5, y6, y7, y8, y9, y10, y11, y12, y13, y14, y15, y16, y17, y18, y19, y20, y21, y22, y23, y24, y25, y26, y27, y28, y29, y30, y31, y32, y33, y34, y35, y36, y37, y38, y39, y40, y41, y42, y43, y44, y45, rfl⟩ := list46 tl hsz
        have e0 : y0 = .slice (some a) n c := hT 0 (by simp)
        have e1 : y1 = .slice (some a') n c' := hT 1 (by simp)
        have e2 : y2 = .bool true := hT 2 (by simp)
        have e3 : y3 = undef := hT 3 (by simp)
        have e4 : y4 = undef := hT 4 (by simp)
        have e5 : y5 = undef := hT 5 (by simp)
        have e7 : y7 = .int .i64 k := hT 7 (by simp)
        have e8 : y8 = .slice (some a) n c := hT 8 (by simp)
        have e9 : y9 = .int .i64 n := hT 9 (by simp)
        have e10 : y10 = .slice (some a') n c' := hT 10 (by simp)
        have e11 : y11 = .int .i64 n := hT 11 (by simp)
        have e12 : y12 = .bool false := hT 12 (by simp)
        have e45 : y45 = .bool false := hT 45 (by simp)
        clear hT
        subst e0 e1 e2 e3 e4 e5 e7 e8 e9 e10 e11 e12 e45
        have hb := hS.1
        go_wp2
        go_roundw
        case rel => exact ⟨k + 1, by omega, by go_num, hb⟩
        case measure => simp [intOf]; omega
    · have hkn' : ¬ (k : Int) < (n : Int) := by omega
      clear h h' hs
      go_wp2
      go_ret
      exact ⟨rfl, hbel⟩
end Go.Proofs.Ytifcdleibjnknaa
