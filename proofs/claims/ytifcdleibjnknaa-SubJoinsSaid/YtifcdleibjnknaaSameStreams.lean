/- cashbooklaw2.SameAll (of the same substreams, as the program's and as the document's) by its contract. Conditions: the rows read as such; no substream has more than 10^18 records. -/
import Derived.Test.YtifcdleibjnknaaSameAllP
import Derived.Test.YtifcdleibjnknaaJoin
import Derived.Test.YtifcdleibjnknaaPhase
namespace Go.Proofs.Ytifcdleibjnknaa
open Go.RowKit

/-- What holds while the two substreams are looked at. -/
def S6S (w : World) (p q : Addr) (kind : Int) (v1 u1 : Value) : List Value → World → Prop := fun _ W =>
  Below w.heap.size w W ∧ W.cell? p = some (.int .i64 kind) ∧ W.cell? ⟨p.block, p.off + 1, none⟩ = some v1 ∧ W.cell? q = some (.int .i64 kind) ∧ W.cell? ⟨q.block, q.off + 1, none⟩ = some u1

theorem S6S.below {w W W' : World} {p q : Addr} {kind : Int} {v1 u1 : Value} {vals : List Value} (h : S6S w p q kind v1 u1 vals W) (hp : p.block < w.heap.size) (hq : q.block < w.heap.size) (hb : Below W.heap.size W W') : S6S w p q kind v1 u1 vals W' := by
  obtain ⟨h0, h1, h2, h3, h4⟩ := h
  have hb' := hb.mono h0.size
  exact ⟨h0.trans hb', (hb'.cell (p := p) hp).trans h1, (hb'.cell (p := ⟨p.block, p.off + 1, none⟩) hp).trans h2, (hb'.cell (p := q) hq).trans h3, (hb'.cell (p := ⟨q.block, q.off + 1, none⟩) hq).trans h4⟩

theorem list42 {α : Type} (l : List α) (h : l.length = 42) : ∃ y0 y1 y2 y3 y4 y5 y6 y7 y8 y9 y10 y11 y12 y13 y14 y15 y16 y17 y18 y19 y20 y21 y22 y23 y24 y25 y26 y27 y28 y29 y30 y31 y32 y33 y34 y35 y36 y37 y38 y39 y40 y41, l = [y0, y1, y2, y3, y4, y5, y6, y7, y8, y9, y10, y11, y12, y13, y14, y15, y16, y17, y18, y19, y20, y21, y22, y23, y24, y25, y26, y27, y28, y29, y30, y31, y32, y33, y34, y35, y36, y37, y38, y39, y40, y41] := by
  obtain ⟨y0, l0, rfl, h0⟩ := len_succ h
  obtain ⟨y1, l1, rfl, h1⟩ := len_succ h0
  obtain ⟨y2, l2, rfl, h2⟩ := len_succ h1
  obtain ⟨y3, l3, rfl, h3⟩ := len_succ h2
  obtain ⟨y4, l4, rfl, h4⟩ := len_succ h3
  obtain ⟨y5, l5, rfl, h5⟩ := len_succ h4
  obtain ⟨y6, l6, rfl, h6⟩ := len_succ h5
  obtain ⟨y7, l7, rfl, h7⟩ := len_succ h6
  obtain ⟨y8, l8, rfl, h8⟩ := len_succ h7
  obtain ⟨y9, l9, rfl, h9⟩ := len_succ h8
  obtain ⟨y10, l10, rfl, h10⟩ := len_succ h9
  obtain ⟨y11, l11, rfl, h11⟩ := len_succ h10
  obtain ⟨y12, l12, rfl, h12⟩ := len_succ h11
  obtain ⟨y13, l13, rfl, h13⟩ := len_succ h12
  obtain ⟨y14, l14, rfl, h14⟩ := len_succ h13
  obtain ⟨y15, l15, rfl, h15⟩ := len_succ h14
  obtain ⟨y16, l16, rfl, h16⟩ := len_succ h15
  obtain ⟨y17, l17, rfl, h17⟩ := len_succ h16
  obtain ⟨y18, l18, rfl, h18⟩ := len_succ h17
  obtain ⟨y19, l19, rfl, h19⟩ := len_succ h18
  obtain ⟨y20, l20, rfl, h20⟩ := len_succ h19
  obtain ⟨y21, l21, rfl, h21⟩ := len_succ h20
  obtain ⟨y22, l22, rfl, h22⟩ := len_succ h21
  obtain ⟨y23, l23, rfl, h23⟩ := len_succ h22
  obtain ⟨y24, l24, rfl, h24⟩ := len_succ h23
  obtain ⟨y25, l25, rfl, h25⟩ := len_succ h24
  obtain ⟨y26, l26, rfl, h26⟩ := len_succ h25
  obtain ⟨y27, l27, rfl, h27⟩ := len_succ h26
  obtain ⟨y28, l28, rfl, h28⟩ := len_succ h27
  obtain ⟨y29, l29, rfl, h29⟩ := len_succ h28
  obtain ⟨y30, l30, rfl, h30⟩ := len_succ h29
  obtain ⟨y31, l31, rfl, h31⟩ := len_succ h30
  obtain ⟨y32, l32, rfl, h32⟩ := len_succ h31
  obtain ⟨y33, l33, rfl, h33⟩ := len_succ h32
  obtain ⟨y34, l34, rfl, h34⟩ := len_succ h33
  obtain ⟨y35, l35, rfl, h35⟩ := len_succ h34
  obtain ⟨y36, l36, rfl, h36⟩ := len_succ h35
  obtain ⟨y37, l37, rfl, h37⟩ := len_succ h36
  obtain ⟨y38, l38, rfl, h38⟩ := len_succ h37
  obtain ⟨y39, l39, rfl, h39⟩ := len_succ h38
  obtain ⟨y40, l40, rfl, h40⟩ := len_succ h39
  obtain ⟨y41, l41, rfl, h41⟩ := len_succ h40
  have := List.eq_nil_of_length_eq_zero h41
  subst this
  exact ⟨_, _, _, _, _, _, _, _, _, _, _, _, _, _, _, _, _, _, _, _, _, _, _, _, _, _, _, _, _, _, _, _, _, _, _, _, _, _, _, _, _, _, rfl⟩

set_option maxHeartbeats 8000000 in
theorem sameStreams_any {w : World} {B n c c' : Nat} {A A' : Option Addr} {L : List StreamM} (h : RowF streamForm w (· < B) A n L) (h' : RowF streamForm w (· < B) A' n L) (hB : B ≤ w.heap.size) (hn : n ≤ 1000000000000000000) (hL : ∀ s ∈ L, s.recs.length ≤ 1000000000000000000) :
    Calls Try.prog 11 #[.slice A n c, .slice A' n c'] w fun e w' => e = .returned (.bool true) ∧ Below w.heap.size w w' := by
  go_enter Try.func11, Try.ntmps11
  go_wp2
  go_loopw [5] (fun i wr => ∃ k : Nat, k ≤ n ∧ i = .int .i64 k ∧ Below w.heap.size w wr) (fun i _ => n - (intOf i).toNat)
  case atStart => exact ⟨0, Nat.zero_le _, rfl, Below.refl _ _⟩
  case round =>
    obtain ⟨k, hk, rfl, hbel⟩ := hrel
    have hll := h.len
    by_cases hkn : k < n
    · obtain ⟨s, hs⟩ : ∃ s, L[k]? = some s := ⟨_, List.getElem?_eq_getElem (by omega)⟩
      have hlen := hL s (List.mem_of_getElem? hs)
      obtain ⟨ad, D, dc, rfl, hab, x0, x1, hcc, hr⟩ := h.stream hs
      obtain ⟨ad', D', dc', rfl, hab', x0', x1', hcc', hr'⟩ := h'.stream hs
      have hp : (ad.add (k * 2)).block < w.heap.size := by omega
      have hq : (ad'.add (k * 2)).block < w.heap.size := by omega
      have hH : S6S w (ad.add (k * 2)) (ad'.add (k * 2)) s.kind (.slice D s.recs.length dc) (.slice D' s.recs.length dc') [] wr :=
        ⟨hbel, (hbel.cell (p := ad.add (k * 2)) hp).trans x0, (hbel.cell (p := ⟨(ad.add (k * 2)).block, (ad.add (k * 2)).off + 1, none⟩) hp).trans x1, (hbel.cell (p := ad'.add (k * 2)) hq).trans x0', (hbel.cell (p := ⟨(ad'.add (k * 2)).block, (ad'.add (k * 2)).off + 1, none⟩) hq).trans x1'⟩
      have hkn' : (k : Int) < (n : Int) := by omega
      have hbk : (s.kind != s.kind) = false := by simp
      clear x0 x1 x0' x1' hs hL h h'
      go_wp2_with fail
      refine wp_region_phases (S := S6S w (ad.add (k * 2)) (ad'.add (k * 2)) s.kind (.slice D s.recs.length dc) (.slice D' s.recs.length dc')) (E := fun W W' => Below w.heap.size W W') [] [(0, Is (.slice (some ad) n c)), (1, Is (.slice (some ad') n c')), (2, Is (undef)), (3, Is (undef)), (5, Is (.int .i64 k)), (6, Is (.slice (some ad) n c)), (7, Is (.int .i64 n)), (8, Is (.slice (some ad') n c')), (9, Is (.int .i64 n)), (10, Is (.bool false))] [(17, Is (.slice (some ad) n c)), (18, Is (.int .i64 k)), (19, Is (.pointer (some (ad.add (k * 2))))), (20, Is (.pointer (some (ad.add (k * 2))))), (21, Is (.int .i64 s.kind)), (22, Is (.slice (some ad') n c')), (23, Is (.int .i64 k)), (24, Is (.pointer (some (ad'.add (k * 2))))), (25, Is (.pointer (some (ad'.add (k * 2))))), (26, Is (.int .i64 s.kind)), (27, Is (.bool false)), (28, Is (.bool false)), (29, Is (.slice (some ad) n c)), (30, Is (.int .i64 k)), (31, Is (.pointer (some (ad.add (k * 2))))), (32, Is (.pointer (some ⟨(ad.add (k * 2)).block, (ad.add (k * 2)).off + 1, none⟩))), (33, Is (.slice D s.recs.length dc)), (34, Is (.slice (some ad') n c')), (35, Is (.int .i64 k)), (36, Is (.pointer (some (ad'.add (k * 2))))), (37, Is (.pointer (some ⟨(ad'.add (k * 2)).block, (ad'.add (k * 2)).off + 1, none⟩))), (38, Is (.slice D' s.recs.length dc')), (39, Is (.bool true)), (40, Is (.bool false)), (41, Is (.bool false))]
        [.op [0] none, .op [5] none, .op [17, 18] none, .op [19] none, .op [20] none, .op [1] none, .op [5] none, .op [22, 23] none, .op [24] none, .op [25] none, .op [21, 26] none, .op [27] none, .op [0, 28] (some (28, false)), .op [5, 28] (some (28, false)), .op [29, 30, 28] (some (28, false)), .op [31, 28] (some (28, false)), .op [32, 28] (some (28, false)), .op [1, 28] (some (28, false)), .op [5, 28] (some (28, false)), .op [34, 35, 28] (some (28, false)), .op [36, 28] (some (28, false)), .op [37, 28] (some (28, false)), .op [33, 38, 28] (some (28, false)), .op [39, 28] (some (28, false)), .op [28, 40] none] (by as_aux_lemma => kernel_rfl) ?_ ?_ ?_ ?_ ?_ ⟨stable_is _ _, stable_is _ _, stable_is _ _, stable_is _ _, stable_is _ _, stable_is _ _, stable_is _ _, stable_is _ _, stable_is _ _, stable_is _ _, stable_is _ _, stable_is _ _, stable_is _ _, stable_is _ _, stable_is _ _, stable_is _ _, stable_is _ _, stable_is _ _, stable_is _ _, stable_is _ _, stable_is _ _, stable_is _ _, stable_is _ _, stable_is _ _, stable_is _ _, stable_is _ _, stable_is _ _, stable_is _ _, stable_is _ _, stable_is _ _, stable_is _ _, stable_is _ _, stable_is _ _, stable_is _ _, stable_is _ _, trivial⟩ ?_ (S6S.below (vals := []) hH hp hq (Below.refl _ _).drew) ?_ ?_
      · as_aux_lemma => kernel_rfl
      · as_aux_lemma => kernel_rfl
      · as_aux_lemma => kernel_rfl
      · as_aux_lemma => kernel_rfl
      · as_aux_lemma => kernel_rfl
      · exact ⟨rfl, rfl, rfl, rfl, rfl, rfl, rfl, rfl, rfl, rfl, trivial⟩
      · refine ⟨?_, ?_, ?_, ?_, ?_, ?_, ?_, ?_, ?_, ?_, ?_, ?_, ?_, ?_, ?_, ?_, ?_, ?_, ?_, ?_, ?_, ?_, ?_, ?_, ?_, trivial⟩
        · as_aux_lemma =>
            intro vals a W hS hL
            have e0 : a.tmps.getD 0 undef = .slice (some ad) n c := hL.1
            clear hL
            go_simp
            exact ⟨⟨fun d hd => by injection hd with hd; subst hd; rfl, fun h => by cases h⟩, hS, Below.refl _ _⟩
        · as_aux_lemma =>
            intro vals a W hS hL
            have e5 : a.tmps.getD 5 undef = .int .i64 k := hL.1
            clear hL
            go_simp
            exact ⟨⟨fun d hd => by injection hd with hd; subst hd; rfl, fun h => by cases h⟩, hS, Below.refl _ _⟩
        · as_aux_lemma =>
            intro vals a W hS hL
            have e17 : a.tmps.getD 17 undef = .slice (some ad) n c := hL.1
            have e18 : a.tmps.getD 18 undef = .int .i64 k := hL.2.1
            clear hL
            go_simp
            exact ⟨⟨fun d hd => by injection hd with hd; subst hd; rfl, fun h => by cases h⟩, hS, Below.refl _ _⟩
        · as_aux_lemma =>
            intro vals a W hS hL
            have e19 : a.tmps.getD 19 undef = .pointer (some (ad.add (k * 2))) := hL.1
            clear hL
            go_simp
            exact ⟨⟨fun d hd => by injection hd with hd; subst hd; rfl, fun h => by cases h⟩, hS, Below.refl _ _⟩
        · as_aux_lemma =>
            intro vals a W hS hL
            have e20 : a.tmps.getD 20 undef = .pointer (some (ad.add (k * 2))) := hL.1
            clear hL
            have hS2 := hS
            obtain ⟨_, f0, f1, g0, g1⟩ := hS2
            go_simp
            exact ⟨⟨fun d hd => by injection hd with hd; subst hd; rfl, fun h => by cases h⟩, hS, Below.refl _ _⟩
        · as_aux_lemma =>
            intro vals a W hS hL
            have e1 : a.tmps.getD 1 undef = .slice (some ad') n c' := hL.1
            clear hL
            go_simp
            exact ⟨⟨fun d hd => by injection hd with hd; subst hd; rfl, fun h => by cases h⟩, hS, Below.refl _ _⟩
        · as_aux_lemma =>
            intro vals a W hS hL
            have e5 : a.tmps.getD 5 undef = .int .i64 k := hL.1
            clear hL
            go_simp
            exact ⟨⟨fun d hd => by injection hd with hd; subst hd; rfl, fun h => by cases h⟩, hS, Below.refl _ _⟩
        · as_aux_lemma =>
            intro vals a W hS hL
            have e22 : a.tmps.getD 22 undef = .slice (some ad') n c' := hL.1
            have e23 : a.tmps.getD 23 undef = .int .i64 k := hL.2.1
            clear hL
            go_simp
            exact ⟨⟨fun d hd => by injection hd with hd; subst hd; rfl, fun h => by cases h⟩, hS, Below.refl _ _⟩
        · as_aux_lemma =>
            intro vals a W hS hL
            have e24 : a.tmps.getD 24 undef = .pointer (some (ad'.add (k * 2))) := hL.1
            clear hL
            go_simp
            exact ⟨⟨fun d hd => by injection hd with hd; subst hd; rfl, fun h => by cases h⟩, hS, Below.refl _ _⟩
        · as_aux_lemma =>
            intro vals a W hS hL
            have e25 : a.tmps.getD 25 undef = .pointer (some (ad'.add (k * 2))) := hL.1
            clear hL
            have hS2 := hS
            obtain ⟨_, f0, f1, g0, g1⟩ := hS2
            go_simp
            exact ⟨⟨fun d hd => by injection hd with hd; subst hd; rfl, fun h => by cases h⟩, hS, Below.refl _ _⟩
        · as_aux_lemma =>
            intro vals a W hS hL
            have e21 : a.tmps.getD 21 undef = .int .i64 s.kind := hL.1
            have e26 : a.tmps.getD 26 undef = .int .i64 s.kind := hL.2.1
            clear hL
            go_simp
            exact ⟨⟨fun d hd => by injection hd with hd; subst hd; rfl, fun h => by cases h⟩, hS, Below.refl _ _⟩
        · as_aux_lemma =>
            intro vals a W hS hL
            have e27 : a.tmps.getD 27 undef = .bool false := hL.1
            clear hL
            go_simp
            exact ⟨⟨fun d hd => by injection hd with hd; subst hd; rfl, fun h => by cases h⟩, hS, Below.refl _ _⟩
        · as_aux_lemma =>
            intro vals a W hS hL
            have e0 : a.tmps.getD 0 undef = .slice (some ad) n c := hL.1
            have e28 : a.tmps.getD 28 undef = .bool false := hL.2.1
            clear hL
            refine ⟨false, e28, ?_⟩
            rw [if_pos rfl]
            go_simp
            exact ⟨⟨fun d hd => by injection hd with hd; subst hd; rfl, fun h => by cases h⟩, hS, Below.refl _ _⟩
        · as_aux_lemma =>
            intro vals a W hS hL
            have e5 : a.tmps.getD 5 undef = .int .i64 k := hL.1
            have e28 : a.tmps.getD 28 undef = .bool false := hL.2.1
            clear hL
            refine ⟨false, e28, ?_⟩
            rw [if_pos rfl]
            go_simp
            exact ⟨⟨fun d hd => by injection hd with hd; subst hd; rfl, fun h => by cases h⟩, hS, Below.refl _ _⟩
        · as_aux_lemma =>
            intro vals a W hS hL
            have e29 : a.tmps.getD 29 undef = .slice (some ad) n c := hL.1
            have e30 : a.tmps.getD 30 undef = .int .i64 k := hL.2.1
            have e28 : a.tmps.getD 28 undef = .bool false := hL.2.2.1
            clear hL
            refine ⟨false, e28, ?_⟩
            rw [if_pos rfl]
            go_simp
            exact ⟨⟨fun d hd => by injection hd with hd; subst hd; rfl, fun h => by cases h⟩, hS, Below.refl _ _⟩
        · as_aux_lemma =>
            intro vals a W hS hL
            have e31 : a.tmps.getD 31 undef = .pointer (some (ad.add (k * 2))) := hL.1
            have e28 : a.tmps.getD 28 undef = .bool false := hL.2.1
            clear hL
            refine ⟨false, e28, ?_⟩
            rw [if_pos rfl]
            go_simp
            exact ⟨⟨fun d hd => by injection hd with hd; subst hd; rfl, fun h => by cases h⟩, hS, Below.refl _ _⟩
        · as_aux_lemma =>
            intro vals a W hS hL
            have e32 : a.tmps.getD 32 undef = .pointer (some ⟨(ad.add (k * 2)).block, (ad.add (k * 2)).off + 1, none⟩) := hL.1
            have e28 : a.tmps.getD 28 undef = .bool false := hL.2.1
            clear hL
            refine ⟨false, e28, ?_⟩
            rw [if_pos rfl]
            have hS2 := hS
            obtain ⟨_, f0, f1, g0, g1⟩ := hS2
            go_simp
            exact ⟨⟨fun d hd => by injection hd with hd; subst hd; rfl, fun h => by cases h⟩, hS, Below.refl _ _⟩
        · as_aux_lemma =>
            intro vals a W hS hL
            have e1 : a.tmps.getD 1 undef = .slice (some ad') n c' := hL.1
            have e28 : a.tmps.getD 28 undef = .bool false := hL.2.1
            clear hL
            refine ⟨false, e28, ?_⟩
            rw [if_pos rfl]
            go_simp
            exact ⟨⟨fun d hd => by injection hd with hd; subst hd; rfl, fun h => by cases h⟩, hS, Below.refl _ _⟩
        · as_aux_lemma =>
            intro vals a W hS hL
            have e5 : a.tmps.getD 5 undef = .int .i64 k := hL.1
            have e28 : a.tmps.getD 28 undef = .bool false := hL.2.1
            clear hL
            refine ⟨false, e28, ?_⟩
            rw [if_pos rfl]
            go_simp
            exact ⟨⟨fun d hd => by injection hd with hd; subst hd; rfl, fun h => by cases h⟩, hS, Below.refl _ _⟩
        · as_aux_lemma =>
            intro vals a W hS hL
            have e34 : a.tmps.getD 34 undef = .slice (some ad') n c' := hL.1
            have e35 : a.tmps.getD 35 undef = .int .i64 k := hL.2.1
            have e28 : a.tmps.getD 28 undef = .bool false := hL.2.2.1
            clear hL
            refine ⟨false, e28, ?_⟩
            rw [if_pos rfl]
            go_simp
            exact ⟨⟨fun d hd => by injection hd with hd; subst hd; rfl, fun h => by cases h⟩, hS, Below.refl _ _⟩
        · as_aux_lemma =>
            intro vals a W hS hL
            have e36 : a.tmps.getD 36 undef = .pointer (some (ad'.add (k * 2))) := hL.1
            have e28 : a.tmps.getD 28 undef = .bool false := hL.2.1
            clear hL
            refine ⟨false, e28, ?_⟩
            rw [if_pos rfl]
            go_simp
            exact ⟨⟨fun d hd => by injection hd with hd; subst hd; rfl, fun h => by cases h⟩, hS, Below.refl _ _⟩
        · as_aux_lemma =>
            intro vals a W hS hL
            have e37 : a.tmps.getD 37 undef = .pointer (some ⟨(ad'.add (k * 2)).block, (ad'.add (k * 2)).off + 1, none⟩) := hL.1
            have e28 : a.tmps.getD 28 undef = .bool false := hL.2.1
            clear hL
            refine ⟨false, e28, ?_⟩
            rw [if_pos rfl]
            have hS2 := hS
            obtain ⟨_, f0, f1, g0, g1⟩ := hS2
            go_simp
            exact ⟨⟨fun d hd => by injection hd with hd; subst hd; rfl, fun h => by cases h⟩, hS, Below.refl _ _⟩
        · as_aux_lemma =>
            intro vals a W hS hL
            have e33 : a.tmps.getD 33 undef = .slice D s.recs.length dc := hL.1
            have e38 : a.tmps.getD 38 undef = .slice D' s.recs.length dc' := hL.2.1
            have e28 : a.tmps.getD 28 undef = .bool false := hL.2.2.1
            clear hL
            refine ⟨false, e28, ?_⟩
            rw [if_pos rfl]
            go_simp
            have hs1 := hS.1.size
            refine (sameAllP_any (hr.below (hS.1.mono hB) (Nat.le_refl _)) (hr'.below (hS.1.mono hB) (Nat.le_refl _)) (by omega) hlen (fun i r s h1 h2 => by rw [h1] at h2; injection h2 with h2; subst h2; exact ⟨⟨rfl, rfl, rfl⟩, rfl⟩)).mono ?_
            rintro e W' ⟨rfl, hb⟩
            exact ⟨_, rfl, ⟨fun d hd => by injection hd with hd; subst hd; rfl, fun h => by cases h⟩, S6S.below hS hp hq hb, hb.mono hs1⟩
        · as_aux_lemma =>
            intro vals a W hS hL
            have e39 : a.tmps.getD 39 undef = .bool true := hL.1
            have e28 : a.tmps.getD 28 undef = .bool false := hL.2.1
            clear hL
            refine ⟨false, e28, ?_⟩
            rw [if_pos rfl]
            go_simp
            exact ⟨⟨fun d hd => by injection hd with hd; subst hd; rfl, fun h => by cases h⟩, hS, Below.refl _ _⟩
        · as_aux_lemma =>
            intro vals a W hS hL
            have e28 : a.tmps.getD 28 undef = .bool false := hL.1
            have e40 : a.tmps.getD 40 undef = .bool false := hL.2.1
            clear hL
            go_simp
            exact ⟨⟨fun d hd => by injection hd with hd; subst hd; rfl, fun h => by cases h⟩, hS, Below.refl _ _⟩
      · intro x W vals hd hsz hT _ hv _ hS
        have hb := hS.1
        have f0 : x.tmps.getD 0 undef = _ := hT 0 (by simp)
        have f1 : x.tmps.getD 1 undef = _ := hT 1 (by simp)
        have f2 : x.tmps.getD 2 undef = _ := hT 2 (by simp)
        have f3 : x.tmps.getD 3 undef = _ := hT 3 (by simp)
        have f5 : x.tmps.getD 5 undef = _ := hT 5 (by simp)
        have f6 : x.tmps.getD 6 undef = _ := hT 6 (by simp)
        have f7 : x.tmps.getD 7 undef = _ := hT 7 (by simp)
        have f8 : x.tmps.getD 8 undef = _ := hT 8 (by simp)
        have f9 : x.tmps.getD 9 undef = _ := hT 9 (by simp)
        have f10 : x.tmps.getD 10 undef = _ := hT 10 (by simp)
        have f41 : x.tmps.getD 41 undef = .bool false := hT 41 (by simp)
        clear hT hS hH
        obtain ⟨⟨tl⟩, df⟩ := x
        simp only [List.size_toArray] at hsz
        obtain rfl : df = [] := hd
        obtain ⟨y0, y1, y2, y3, y4, y5, y6, y7, y8, y9, y10, y11, y12, y13, y14, y15, y16, y17, y18, y19, y20, y21, y22, y23, y24, y25, y26, y27, y28, y29, y30, y31, y32, y33, y34, y35, y36, y37, y38, y39, y40, y41, rfl⟩ := list42 tl hsz
        have g0 : y0 = _ := f0
        have g1 : y1 = _ := f1
        have g2 : y2 = _ := f2
        have g3 : y3 = _ := f3
        have g5 : y5 = _ := f5
        have g6 : y6 = _ := f6
        have g7 : y7 = _ := f7
        have g8 : y8 = _ := f8
        have g9 : y9 = _ := f9
        have g10 : y10 = _ := f10
        have g41 : y41 = _ := f41
        clear f0 f1 f2 f3 f5 f6 f7 f8 f9 f10 f41 hsz
        subst g0 g1 g2 g3 g5 g6 g7 g8 g9 g10 g41
        go_wp2
        go_roundw
        case rel => exact ⟨k + 1, by omega, by go_num, hb⟩
        case measure => simp [intOf]; omega
    · have hkn' : ¬ (k : Int) < (n : Int) := by omega
      go_wp2
      go_ret
      exact ⟨rfl, hbel⟩
end Go.Proofs.Ytifcdleibjnknaa
