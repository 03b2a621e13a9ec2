/- The reference's alike by its contract: both numbers with as many places as the one has that has more. Condition: 64 bits, at most nine places. -/
import Derived.Test.YtmbjmgmnicacpaaGreatDoorRow11a
namespace Go.Proofs.YtmbjmgmnicacpaaGreatDoor
open Go.RowKit

theorem SB.turn {w W : World} {n : Nat} {x y : Nat × TypeId × Array Value} {bs : List (Nat × TypeId × Array Value)} (h : SB w n (x :: y :: bs) W) : SB w n (y :: x :: bs) W :=
  ⟨h.bel, h.size, fun z hz => h.bk z (by simp only [List.mem_cons] at hz ⊢; rcases hz with e | e | e <;> simp [e])⟩
/-- Two boxes, filled one behind the other; two numbers that stay. -/
def S5 (w : World) (g g' : Nat) (bs : List (Nat × TypeId × Array Value)) (x y : Value) (m k V U : Int) : List Value → World → Prop
  | [], W => SB w 4 ((g, 98, #[.bool false, .slice none 0 0]) :: (g', 98, #[.bool false, .slice none 0 0]) :: bs) W ∧ BigN W x m ∧ BigN W y k
  | [_], W => (∃ cs, BigN W (.agg cs) V ∧ SB w 4 ((g, 98, cs) :: (g', 98, #[.bool false, .slice none 0 0]) :: bs) W) ∧ BigN W x m ∧ BigN W y k
  | _ :: _ :: _, W => (∃ cs cs', BigN W (.agg cs) V ∧ BigN W (.agg cs') U ∧ SB w 4 ((g, 98, cs) :: (g', 98, cs') :: bs) W) ∧ BigN W x m ∧ BigN W y k
section
variable {w W W' : World} {g g' : Nat} {bs : List (Nat × TypeId × Array Value)} {x y : Value} {m k V U : Int} {vals : List Value}
theorem S5.bk (h : S5 w g g' bs x y m k V U vals W) {b : Nat × TypeId × Array Value} (h1 : b ∈ bs) : Bk W b.1 b.2.1 b.2.2 := by
  match vals, h with
  | [], h => exact h.1.bk b (List.mem_cons_of_mem _ (List.mem_cons_of_mem _ h1))
  | [_], ⟨⟨_, _, h⟩, _, _⟩ => exact h.bk b (List.mem_cons_of_mem _ (List.mem_cons_of_mem _ h1))
  | _ :: _ :: _, ⟨⟨_, _, _, _, h⟩, _, _⟩ => exact h.bk b (List.mem_cons_of_mem _ (List.mem_cons_of_mem _ h1))
theorem S5.hx (h : S5 w g g' bs x y m k V U vals W) : BigN W x m := by
  match vals, h with
  | [], h => exact h.2.1
  | [_], h => exact h.2.1
  | _ :: _ :: _, h => exact h.2.1
theorem S5.hy (h : S5 w g g' bs x y m k V U vals W) : BigN W y k := by
  match vals, h with
  | [], h => exact h.2.2
  | [_], h => exact h.2.2
  | _ :: _ :: _, h => exact h.2.2
theorem S5.call (h : S5 w g g' bs x y m k V U vals W) (hb : Below W.heap.size W W') : S5 w g g' bs x y m k V U vals W' := by
  match vals, h with
  | [], ⟨h, hx, hy⟩ => exact ⟨SB.call h hb, hx.below hb, hy.below hb⟩
  | [_], ⟨⟨cs, h1, h⟩, hx, hy⟩ => exact ⟨⟨cs, h1.below hb, SB.call h hb⟩, hx.below hb, hy.below hb⟩
  | _ :: _ :: _, ⟨⟨cs, cs', h1, h2, h⟩, hx, hy⟩ => exact ⟨⟨cs, cs', h1.below hb, h2.below hb, SB.call h hb⟩, hx.below hb, hy.below hb⟩
end
theorem BigN.drew {w : World} {v : Value} {V : Int} (h : BigN w v V) : BigN w.drew v V := by
  obtain ⟨A, n, c, h1, h2, h3, h4⟩ := h
  exact ⟨A, n, c, h1, h2, h3, h4.drew⟩

set_option maxRecDepth 20000 in
set_option maxHeartbeats 2000000 in
theorem alike_any {w : World} {m k : Int} {s t : Nat} (h0 : -9223372036854775808 ≤ m) (h1 : m ≤ 9223372036854775807) (h2 : -9223372036854775808 ≤ k) (h3 : k ≤ 9223372036854775807) (hs : s ≤ 9) (ht : t ≤ 9) :
    Calls Tryz.prog 69 #[.agg #[.int .i64 m, .int .i64 (s : Nat)], .agg #[.int .i64 k, .int .i64 (t : Nat)]] w fun e w' => ∃ x y, e = .returned (.tuple #[x, y, .int .i64 ((max s t : Nat) : Int)]) ∧ BigN w' x (m * 10 ^ (max s t - s)) ∧ BigN w' y (k * 10 ^ (max s t - t)) ∧ Below w.heap.size w w' := by
  have lm := Nat.le_trans (digs_i64 h0 h1) (show 20 ≤ 500 by omega)
  have lk := Nat.le_trans (digs_i64 h2 h3) (show 20 ≤ 500 by omega)
  have HSB : Hid (SB w 4 [(w.heap.size + 1 + 1 + 1, 98, #[.bool false, .slice none 0 0]), (w.heap.size + 1 + 1, 98, #[.bool false, .slice none 0 0]), (w.heap.size + 1, 27, #[.int .i64 k, .int .i64 (t : Nat)]), (w.heap.size, 27, #[.int .i64 m, .int .i64 (s : Nat)])] ((((w.alloc (.cells #[.int .i64 m, .int .i64 (s : Nat)] 27)).alloc (.cells #[.int .i64 k, .int .i64 (t : Nat)] 27)).alloc (.cells #[.bool false, .slice none 0 0] 98)).alloc (.cells #[.bool false, .slice none 0 0] 98))) := Lib.hid
    ((((sb1 w 27 #[.int .i64 m, .int .i64 (s : Nat)]).push (by simp) 27 #[.int .i64 k, .int .i64 (t : Nat)]).push (by simp) 98 #[.bool false, .slice none 0 0]).push (by simp) 98 #[.bool false, .slice none 0 0])
  go_enter Tryz.func69, Tryz.ntmps69
  go_wp2_with fail
  generalize ((((w.alloc (.cells #[.int .i64 m, .int .i64 (s : Nat)] 27)).alloc (.cells #[.int .i64 k, .int .i64 (t : Nat)] 27)).alloc (.cells #[.bool false, .slice none 0 0] 98)).alloc (.cells #[.bool false, .slice none 0 0] 98)) = w0 at *
  have kb := HSB.out.bk _ (.tail _ (.tail _ (.tail _ (.head _))))
  have f0 := kb.cell 0
  go_wp2_with fail
  refine (bigN_big h0 h1).mono ?_
  rintro e w1 ⟨x, rfl, hx, hb1⟩
  have hB1 := HSB.out.call hb1
  obtain ⟨Ax, nx, cx, rfl, -⟩ := id hx
  generalize hbx : decide (m < 0) = bx at *
  clear HSB kb f0 hb1
  obtain ⟨g7, hg7⟩ : ∃ g, w1.heap.size = g := ⟨_, rfl⟩
  have hB2 := hB1.alloc 98 #[.bool bx, .slice Ax nx cx]
  have hx2 := hx.below ((Below.refl w1.heap.size w1).alloc (Nat.le_refl _) (.cells #[.bool bx, .slice Ax nx cx] 98))
  rw [hg7] at hB2
  have h47 : w.heap.size + 4 ≤ g7 := by rw [← hg7]; exact hB1.size
  have kt : Bk (w1.alloc (.cells #[.bool bx, .slice Ax nx cx] 98)) (w.heap.size + 1) 27 #[.int .i64 k, .int .i64 (t : Nat)] := hB2.bk _ (.tail _ (.tail _ (.tail _ (.head _))))
  have f0 := kt.cell 0
  clear hx hB1
  go_wp2_with fail
  generalize (w1.alloc (.cells #[.bool bx, .slice Ax nx cx] 98)) = w2 at *
  refine (bigN_big h2 h3).mono ?_
  rintro e w3 ⟨y, rfl, hy, hb3⟩
  have hB3 := hB2.call hb3
  have hx3 := hx2.below hb3
  obtain ⟨Ay, ny, cy, rfl, -⟩ := id hy
  generalize hby : decide (k < 0) = by_ at *
  clear hB2 hx2 kt f0 hb3 hg7
  obtain ⟨g8, hg8⟩ : ∃ g, w3.heap.size = g := ⟨_, rfl⟩
  have h48 : g7 < g8 := by rw [← hg8]; exact (hB3.bk _ (.head _)).lt
  have hB4 := hB3.alloc 98 #[.bool by_, .slice Ay ny cy]
  have hx4 := hx3.below ((Below.refl w3.heap.size w3).alloc (Nat.le_refl _) (.cells #[.bool by_, .slice Ay ny cy] 98))
  have hy4 := hy.below ((Below.refl w3.heap.size w3).alloc (Nat.le_refl _) (.cells #[.bool by_, .slice Ay ny cy] 98))
  rw [hg8] at hB4
  have ka : Bk (w3.alloc (.cells #[.bool by_, .slice Ay ny cy] 98)) (w.heap.size) 27 #[.int .i64 m, .int .i64 (s : Nat)] := hB4.bk _ (.tail _ (.tail _ (.tail _ (.tail _ (.tail _ (.head _))))))
  have kb : Bk (w3.alloc (.cells #[.bool by_, .slice Ay ny cy] 98)) (w.heap.size + 1) 27 #[.int .i64 k, .int .i64 (t : Nat)] := hB4.bk _ (.tail _ (.tail _ (.tail _ (.tail _ (.head _)))))
  have f0 := ka.cell 1
  have f1 := kb.cell 1
  have HB : Hid (SB w 4 ((w.heap.size + 1 + 1, 98, #[.bool false, .slice none 0 0]) :: (w.heap.size + 1 + 1 + 1, 98, #[.bool false, .slice none 0 0]) :: ([(w.heap.size, 27, #[.int .i64 m, .int .i64 (s : Nat)]), (w.heap.size + 1, 27, #[.int .i64 k, .int .i64 (t : Nat)]), (g7, 98, #[.bool bx, .slice Ax nx cx]), (g8, 98, #[.bool by_, .slice Ay ny cy])] : List (Nat × TypeId × Array Value))) (w3.alloc (.cells #[.bool by_, .slice Ay ny cy] 98))) := Lib.hid ⟨hB4.bel, hB4.size, fun z hz => hB4.bk z (by
    simp only [List.mem_cons, List.not_mem_nil, or_false] at hz ⊢
    rcases hz with e | e | e | e | e | e <;> simp [e])⟩
  clear hx3 hy hB3 hB4
  by_cases hst : s < t
  · have hst' : (s : Int) < (t : Int) := by omega
    obtain ⟨d, hd⟩ : ∃ d, t - s = d := ⟨_, rfl⟩
    have HJ := Lib.hid (show IntKind.i64.wrap ((t : Int) - (s : Int)) = (d : Int) by rw [show (t : Int) - (s : Int) = (d : Int) by omega]; exact IntWalk.i64_in _ (by omega))
    have HUP : Hid (∀ (W : World) (x : Value), BigN W x m → Calls Tryz.prog 90 #[x, .int .i64 (d : Nat)] W fun e w' => ∃ y, e = .returned y ∧ BigN w' y (m * 10 ^ d) ∧ Below W.heap.size W w') := Lib.hid (fun W x hx => up_any hx lm (by omega))
    have HM := Lib.hid (show (max s t : Nat) = t by omega)
    have HV := Lib.hid (show m * 10 ^ (max s t - s) = m * 10 ^ d by rw [HM.out, hd])
    have HU := Lib.hid (show k * 10 ^ (max s t - t) = k by rw [HM.out, Nat.sub_self, Int.pow_zero, Int.mul_one])
    go_wp2_with fail
    generalize (w3.alloc (.cells #[.bool by_, .slice Ay ny cy] 98)) = w4 at *
    have HS5 : Hid (S5 w (w.heap.size + 1 + 1) (w.heap.size + 1 + 1 + 1) ([(w.heap.size, 27, #[.int .i64 m, .int .i64 (s : Nat)]), (w.heap.size + 1, 27, #[.int .i64 k, .int .i64 (t : Nat)]), (g7, 98, #[.bool bx, .slice Ax nx cx]), (g8, 98, #[.bool by_, .slice Ay ny cy])] : List (Nat × TypeId × Array Value)) (.agg #[.bool bx, .slice Ax nx cx]) (.agg #[.bool by_, .slice Ay ny cy]) m k (m * 10 ^ d) k [] w4.drew) := Lib.hid ⟨HB.out.drew, hx4.drew, hy4.drew⟩
    clear hbx hby
    clear HB hx4 hy4 ka kb f0 f1
    refine wp_region_phases (S := (S5 w (w.heap.size + 1 + 1) (w.heap.size + 1 + 1 + 1) ([(w.heap.size, 27, #[.int .i64 m, .int .i64 (s : Nat)]), (w.heap.size + 1, 27, #[.int .i64 k, .int .i64 (t : Nat)]), (g7, 98, #[.bool bx, .slice Ax nx cx]), (g8, 98, #[.bool by_, .slice Ay ny cy])] : List (Nat × TypeId × Array Value)) (.agg #[.bool bx, .slice Ax nx cx]) (.agg #[.bool by_, .slice Ay ny cy]) m k (m * 10 ^ d) (k))) (E := EI) [10, 11] [(2, Is (.pointer (some ⟨w.heap.size, 0, none⟩))), (3, Is (.pointer (some ⟨w.heap.size + 1, 0, none⟩))), (4, Is (.pointer (some ⟨w.heap.size + 1 + 1, 0, none⟩))), (5, Is (.pointer (some ⟨w.heap.size + 1 + 1 + 1, 0, none⟩))), (7, Is (.pointer (some ⟨g7, 0, none⟩))), (8, Is (.pointer (some ⟨g8, 0, none⟩)))] [(20, FNum m), (21, Is (.pointer (some ⟨w.heap.size + 1, 1, none⟩))), (22, Is (.int .i64 (t : Nat))), (23, Is (.pointer (some ⟨w.heap.size, 1, none⟩))), (24, Is (.int .i64 (s : Nat))), (25, Is (.int .i64 (d : Nat))), (26, FNum (m * 10 ^ d)), (27, FNum k), (28, Is (.pointer (some ⟨w.heap.size + 1, 1, none⟩))), (29, Is (.int .i64 (t : Nat))), (6, Is (.int .i64 (t : Nat)))]
      [.op [7] none, .op [3] none, .op [21] none, .op [2] none, .op [23] none, .op [22, 24] none, .op [20, 25] none, .op [8] none, .op [3] none, .op [28] none, .phase 0 [4, 26] [], .phase 1 [5, 27] [], .op [29] none] (by as_aux_lemma => kernel_rfl) ?_ ?_ ?_ ?_ ?_ ⟨stable_is _ _, stable_is _ _, stable_is _ _, stable_is _ _, stable_is _ _, stable_is _ _, st_num, stable_is _ _, stable_is _ _, stable_is _ _, stable_is _ _, stable_is _ _, st_num, st_num, stable_is _ _, stable_is _ _, stable_is _ _, trivial⟩ ?_ (HS5.out) ?_ ?_
    · as_aux_lemma => kernel_rfl
    · as_aux_lemma => kernel_rfl
    · as_aux_lemma => kernel_rfl
    · as_aux_lemma => kernel_rfl
    · as_aux_lemma => kernel_rfl
    · exact ⟨rfl, rfl, rfl, rfl, rfl, rfl, trivial⟩
    · refine ⟨?_, ?_, ?_, ?_, ?_, ?_, ?_, ?_, ?_, ?_, ?_, ?_, ?_, trivial⟩
      · as_aux_lemma =>
          intro vals a W hS hL
          have e7 : a.tmps.getD 7 undef = .pointer (some ⟨g7, 0, none⟩) := hL.1
          clear hL
          have kb : Bk W g7 98 #[.bool bx, .slice Ax nx cx] := hS.bk (.tail _ (.tail _ (.head _)))
          have f0 := kb.cell 0
          have f1 := kb.cell 1
          clear kb
          have hn := hS.hx
          go_simp
          exact ⟨⟨fun d hd => by injection hd with hd; subst hd; exact hn, fun h => by cases h⟩, hS, EI.refl _⟩
      · as_aux_lemma =>
          intro vals a W hS hL
          have e3 : a.tmps.getD 3 undef = .pointer (some ⟨w.heap.size + 1, 0, none⟩) := hL.1
          clear hL
          go_simp
          exact ⟨⟨fun d hd => by injection hd with hd; subst hd; rfl, fun h => by cases h⟩, hS, EI.refl _⟩
      · as_aux_lemma =>
          intro vals a W hS hL
          have e21 : a.tmps.getD 21 undef = .pointer (some ⟨w.heap.size + 1, 1, none⟩) := hL.1
          clear hL
          have kb : Bk W (w.heap.size + 1) 27 #[.int .i64 k, .int .i64 (t : Nat)] := hS.bk (.tail _ (.head _))
          have f0 := kb.cell 0
          have f1 := kb.cell 1
          clear kb
          go_simp
          exact ⟨⟨fun d hd => by injection hd with hd; subst hd; rfl, fun h => by cases h⟩, hS, EI.refl _⟩
      · as_aux_lemma =>
          intro vals a W hS hL
          have e2 : a.tmps.getD 2 undef = .pointer (some ⟨w.heap.size, 0, none⟩) := hL.1
          clear hL
          go_simp
          exact ⟨⟨fun d hd => by injection hd with hd; subst hd; rfl, fun h => by cases h⟩, hS, EI.refl _⟩
      · as_aux_lemma =>
          intro vals a W hS hL
          have e23 : a.tmps.getD 23 undef = .pointer (some ⟨w.heap.size, 1, none⟩) := hL.1
          clear hL
          have kb : Bk W (w.heap.size) 27 #[.int .i64 m, .int .i64 (s : Nat)] := hS.bk (.head _)
          have f0 := kb.cell 0
          have f1 := kb.cell 1
          clear kb
          go_simp
          exact ⟨⟨fun d hd => by injection hd with hd; subst hd; rfl, fun h => by cases h⟩, hS, EI.refl _⟩
      · as_aux_lemma =>
          intro vals a W hS hL
          have e22 : a.tmps.getD 22 undef = .int .i64 (t : Nat) := hL.1
          have e24 : a.tmps.getD 24 undef = .int .i64 (s : Nat) := hL.2.1
          clear hL
          have hd := HJ.out
          go_simp
          exact ⟨⟨fun d hd => by injection hd with hd; subst hd; rfl, fun h => by cases h⟩, hS, EI.refl _⟩
      · as_aux_lemma =>
          intro vals a W hS hL
          have e20 := hL.1
          have e25 : a.tmps.getD 25 undef = .int .i64 (d : Nat) := hL.2.1
          clear hL
          have hnum := e20
          obtain ⟨A1, n1, c1, e20, hm1, hc1, h20⟩ := e20
          rw [show a.tmps.getD 20 undef = _ from e20] at hnum
          go_simp
          refine (HUP.out _ _ hnum).mono ?_
          rintro e W1 ⟨y, rfl, hy, hb⟩
          exact ⟨_, rfl, ⟨fun d hd => by injection hd with hd; subst hd; exact hy, fun h => by cases h⟩, hS.call hb, EI.of_below hb⟩
      · as_aux_lemma =>
          intro vals a W hS hL
          have e8 : a.tmps.getD 8 undef = .pointer (some ⟨g8, 0, none⟩) := hL.1
          clear hL
          have kb : Bk W g8 98 #[.bool by_, .slice Ay ny cy] := hS.bk (.tail _ (.tail _ (.tail _ (.head _))))
          have f0 := kb.cell 0
          have f1 := kb.cell 1
          clear kb
          have hn := hS.hy
          go_simp
          exact ⟨⟨fun d hd => by injection hd with hd; subst hd; exact hn, fun h => by cases h⟩, hS, EI.refl _⟩
      · as_aux_lemma =>
          intro vals a W hS hL
          have e3 : a.tmps.getD 3 undef = .pointer (some ⟨w.heap.size + 1, 0, none⟩) := hL.1
          clear hL
          go_simp
          exact ⟨⟨fun d hd => by injection hd with hd; subst hd; rfl, fun h => by cases h⟩, hS, EI.refl _⟩
      · as_aux_lemma =>
          intro vals a W hS hL
          have e28 : a.tmps.getD 28 undef = .pointer (some ⟨w.heap.size + 1, 1, none⟩) := hL.1
          clear hL
          have kb : Bk W (w.heap.size + 1) 27 #[.int .i64 k, .int .i64 (t : Nat)] := hS.bk (.tail _ (.head _))
          have f0 := kb.cell 0
          have f1 := kb.cell 1
          clear kb
          go_simp
          exact ⟨⟨fun d hd => by injection hd with hd; subst hd; rfl, fun h => by cases h⟩, hS, EI.refl _⟩
      · as_aux_lemma =>
          intro a W vals hv hS hL hp
          have e4 : a.tmps.getD 4 undef = .pointer (some ⟨w.heap.size + 1 + 1, 0, none⟩) := hL.1
          have e26 := hL.2.1
          clear hL
          match vals, hv, hS with
          | [], _, hS =>
            obtain ⟨hB, hx, hy⟩ : SB w 4 ((w.heap.size + 1 + 1, 98, #[.bool false, .slice none 0 0]) :: (w.heap.size + 1 + 1 + 1, 98, #[.bool false, .slice none 0 0]) :: ([(w.heap.size, 27, #[.int .i64 m, .int .i64 (s : Nat)]), (w.heap.size + 1, 27, #[.int .i64 k, .int .i64 (t : Nat)]), (g7, 98, #[.bool bx, .slice Ax nx cx]), (g8, 98, #[.bool by_, .slice Ay ny cy])] : List (Nat × TypeId × Array Value))) W ∧ BigN W (.agg #[.bool bx, .slice Ax nx cx]) m ∧ BigN W (.agg #[.bool by_, .slice Ay ny cy]) k := hS
            have hnum := e26
            obtain ⟨A4, n4, c4, e26, hm4, hc4, h26⟩ := e26
            have kz := hB.bk _ (List.mem_cons_self ..)
            have hlt : ∀ x ∈ ((w.heap.size + 1 + 1 + 1, 98, #[.bool false, .slice none 0 0]) :: ([(w.heap.size, 27, #[.int .i64 m, .int .i64 (s : Nat)]), (w.heap.size + 1, 27, #[.int .i64 k, .int .i64 (t : Nat)]), (g7, 98, #[.bool bx, .slice Ax nx cx]), (g8, 98, #[.bool by_, .slice Ay ny cy])] : List (Nat × TypeId × Array Value))), x.1 ≠ w.heap.size + 1 + 1 := by simp <;> omega
            have z0 := kz.frozen 0
            have z1 := kz.frozen 1
            have q0 := kz.cell 0
            have q1 := kz.cell 1
            rw [show a.tmps.getD 26 undef = _ from e26] at hnum
            have hF := hB.set2 (by omega) hlt (.bool (decide (m * 10 ^ d < 0))) (.slice A4 n4 c4)
            have hN := BigN.box2 (b' := decide (m * 10 ^ d < 0)) (A' := A4) (n' := n4) (c' := c4) hnum kz
            have hx2 := BigN.box2 (b' := decide (m * 10 ^ d < 0)) (A' := A4) (n' := n4) (c' := c4) hx kz
            have hy2 := BigN.box2 (b' := decide (m * 10 ^ d < 0)) (A' := A4) (n' := n4) (c' := c4) hy kz
            have hE := (EI.set (i := 0) (u := .bool (decide (m * 10 ^ d < 0))) kz (show (98 : TypeId) ≠ 3 by decide) no_big).trans (EI.set (i := 1) (u := .slice A4 n4 c4) (show Bk (W.setCell ⟨w.heap.size + 1 + 1, 0, none⟩ (.bool (decide (m * 10 ^ d < 0)))) (w.heap.size + 1 + 1) 98 #[.bool (decide (m * 10 ^ d < 0)), .slice none 0 0] by simpa using kz.set_ 0 (.bool (decide (m * 10 ^ d < 0)))) (show (98 : TypeId) ≠ 3 by decide) no_big)
            rw [Array.getD_eq_getD_getElem?] at e26
            clear hS kz hB hnum hx hy
            go_simp
            exact ⟨⟨⟨_, hN, hF⟩, hx2, hy2⟩, trivial, hE⟩
      · as_aux_lemma =>
          intro a W vals hv hS hL hp
          have e5 : a.tmps.getD 5 undef = .pointer (some ⟨w.heap.size + 1 + 1 + 1, 0, none⟩) := hL.1
          have e27 := hL.2.1
          clear hL
          match vals, hv, hS with
          | [_], _, hS =>
            obtain ⟨⟨cs0, hN0, hB0⟩, hx, hy⟩ : (∃ cs, BigN W (.agg cs) (m * 10 ^ d) ∧ SB w 4 ((w.heap.size + 1 + 1, 98, cs) :: (w.heap.size + 1 + 1 + 1, 98, #[.bool false, .slice none 0 0]) :: ([(w.heap.size, 27, #[.int .i64 m, .int .i64 (s : Nat)]), (w.heap.size + 1, 27, #[.int .i64 k, .int .i64 (t : Nat)]), (g7, 98, #[.bool bx, .slice Ax nx cx]), (g8, 98, #[.bool by_, .slice Ay ny cy])] : List (Nat × TypeId × Array Value))) W) ∧ BigN W (.agg #[.bool bx, .slice Ax nx cx]) m ∧ BigN W (.agg #[.bool by_, .slice Ay ny cy]) k := hS
            have hB := hB0.turn
            have hnum := e27
            obtain ⟨A4, n4, c4, e27, hm4, hc4, h27⟩ := e27
            have kz := hB.bk _ (List.mem_cons_self ..)
            have hlt : ∀ x ∈ ((w.heap.size + 1 + 1, 98, cs0) :: ([(w.heap.size, 27, #[.int .i64 m, .int .i64 (s : Nat)]), (w.heap.size + 1, 27, #[.int .i64 k, .int .i64 (t : Nat)]), (g7, 98, #[.bool bx, .slice Ax nx cx]), (g8, 98, #[.bool by_, .slice Ay ny cy])] : List (Nat × TypeId × Array Value))), x.1 ≠ w.heap.size + 1 + 1 + 1 := by simp <;> omega
            have z0 := kz.frozen 0
            have z1 := kz.frozen 1
            have q0 := kz.cell 0
            have q1 := kz.cell 1
            rw [show a.tmps.getD 27 undef = _ from e27] at hnum
            have hF := hB.set2 (by omega) hlt (.bool (decide (k < 0))) (.slice A4 n4 c4)
            have hN := BigN.box2 (b' := decide (k < 0)) (A' := A4) (n' := n4) (c' := c4) hnum kz
            have hx2 := BigN.box2 (b' := decide (k < 0)) (A' := A4) (n' := n4) (c' := c4) hx kz
            have hy2 := BigN.box2 (b' := decide (k < 0)) (A' := A4) (n' := n4) (c' := c4) hy kz
            have hN2 := BigN.box2 (b' := decide (k < 0)) (A' := A4) (n' := n4) (c' := c4) hN0 kz
            have hE := (EI.set (i := 0) (u := .bool (decide (k < 0))) kz (show (98 : TypeId) ≠ 3 by decide) no_big).trans (EI.set (i := 1) (u := .slice A4 n4 c4) (show Bk (W.setCell ⟨w.heap.size + 1 + 1 + 1, 0, none⟩ (.bool (decide (k < 0)))) (w.heap.size + 1 + 1 + 1) 98 #[.bool (decide (k < 0)), .slice none 0 0] by simpa using kz.set_ 0 (.bool (decide (k < 0)))) (show (98 : TypeId) ≠ 3 by decide) no_big)
            rw [Array.getD_eq_getD_getElem?] at e27
            clear hS kz hB hnum hx hy hN0 hB0
            go_simp
            exact ⟨⟨⟨_, _, hN2, hN, hF.turn⟩, hx2, hy2⟩, trivial, hE⟩
      · as_aux_lemma =>
          intro vals a W hS hL
          have e29 : a.tmps.getD 29 undef = .int .i64 (t : Nat) := hL.1
          clear hL
          go_simp
          exact ⟨⟨fun d hd => by injection hd with hd; subst hd; rfl, fun h => by cases h⟩, hS, EI.refl _⟩
    · intro a W' vals hd hsz hT hF hv hP hS
      obtain ⟨v0, v1, rfl⟩ : ∃ v0 v1, vals = [v0, v1] := by
        match vals, hv with
        | [x, y], _ => exact ⟨x, y, rfl⟩
      obtain ⟨⟨cs4, cs5, hN4, hN5, hB⟩, -, -⟩ : (∃ cs cs', BigN W' (.agg cs) (m * 10 ^ d) ∧ BigN W' (.agg cs') (k) ∧ SB w 4 ((w.heap.size + 1 + 1, 98, cs) :: (w.heap.size + 1 + 1 + 1, 98, cs') :: ([(w.heap.size, 27, #[.int .i64 m, .int .i64 (s : Nat)]), (w.heap.size + 1, 27, #[.int .i64 k, .int .i64 (t : Nat)]), (g7, 98, #[.bool bx, .slice Ax nx cx]), (g8, 98, #[.bool by_, .slice Ay ny cy])] : List (Nat × TypeId × Array Value))) W') ∧ BigN W' (.agg #[.bool bx, .slice Ax nx cx]) m ∧ BigN W' (.agg #[.bool by_, .slice Ay ny cy]) k := hS
      have e4 : a.tmps.getD 4 undef = .pointer (some ⟨w.heap.size + 1 + 1, 0, none⟩) := hT 4 (by simp)
      have e5 : a.tmps.getD 5 undef = .pointer (some ⟨w.heap.size + 1 + 1 + 1, 0, none⟩) := hT 5 (by simp)
      have e6 : a.tmps.getD 6 undef = .int .i64 (t : Nat) := hT 6 (by simp)
      clear hT hF hP
      rw [act_lit 40 a hd hsz]
      simp only [List.range, List.range.loop, List.map, e4, e5, e6]
      clear e4 e5 e6
      obtain ⟨A4, n4, c4, hcs4, -⟩ := id hN4
      injection hcs4 with hcs4
      subst hcs4
      obtain ⟨A5, n5, c5, hcs5, -⟩ := id hN5
      injection hcs5 with hcs5
      subst hcs5
      have k4 := hB.bk _ (.head _)
      have k5 := hB.bk _ (.tail _ (.head _))
      have r0 := k4.cell 0
      have r1 := k4.cell 1
      have y0 := k5.cell 0
      have y1 := k5.cell 1
      have hbel := hB.bel
      clear HUP HS5 HJ hB
      go_wp2
      refine bodyPost_ret (v := .tuple #[.agg #[.bool (decide (m * 10 ^ d < 0)), .slice A4 n4 c4], .agg #[.bool (decide (k < 0)), .slice A5 n5 c5], .int .i64 (t : Nat)]) (by simp [results, Tryz.results69, go_sem, r0, r1, y0, y1]) rfl ?_
      exact ⟨_, _, by rw [HM.out], by rw [HV.out]; exact hN4, by rw [HU.out]; exact hN5, hbel⟩
  · have hst' : ¬ (s : Int) < (t : Int) := by omega
    obtain ⟨d, hd⟩ : ∃ d, s - t = d := ⟨_, rfl⟩
    have HJ := Lib.hid (show IntKind.i64.wrap ((s : Int) - (t : Int)) = (d : Int) by rw [show (s : Int) - (t : Int) = (d : Int) by omega]; exact IntWalk.i64_in _ (by omega))
    have HUP : Hid (∀ (W : World) (x : Value), BigN W x k → Calls Tryz.prog 90 #[x, .int .i64 (d : Nat)] W fun e w' => ∃ y, e = .returned y ∧ BigN w' y (k * 10 ^ d) ∧ Below W.heap.size W w') := Lib.hid (fun W x hx => up_any hx lk (by omega))
    have HM := Lib.hid (show (max s t : Nat) = s by omega)
    have HV := Lib.hid (show m * 10 ^ (max s t - s) = m by rw [HM.out, Nat.sub_self, Int.pow_zero, Int.mul_one])
    have HU := Lib.hid (show k * 10 ^ (max s t - t) = k * 10 ^ d by rw [HM.out, hd])
    go_wp2_with fail
    generalize (w3.alloc (.cells #[.bool by_, .slice Ay ny cy] 98)) = w4 at *
    have HS5 : Hid (S5 w (w.heap.size + 1 + 1) (w.heap.size + 1 + 1 + 1) ([(w.heap.size, 27, #[.int .i64 m, .int .i64 (s : Nat)]), (w.heap.size + 1, 27, #[.int .i64 k, .int .i64 (t : Nat)]), (g7, 98, #[.bool bx, .slice Ax nx cx]), (g8, 98, #[.bool by_, .slice Ay ny cy])] : List (Nat × TypeId × Array Value)) (.agg #[.bool bx, .slice Ax nx cx]) (.agg #[.bool by_, .slice Ay ny cy]) m k m (k * 10 ^ d) [] w4.drew) := Lib.hid ⟨HB.out.drew, hx4.drew, hy4.drew⟩
    clear hbx hby
    clear HB hx4 hy4 ka kb f0 f1
    refine wp_region_phases (S := (S5 w (w.heap.size + 1 + 1) (w.heap.size + 1 + 1 + 1) ([(w.heap.size, 27, #[.int .i64 m, .int .i64 (s : Nat)]), (w.heap.size + 1, 27, #[.int .i64 k, .int .i64 (t : Nat)]), (g7, 98, #[.bool bx, .slice Ax nx cx]), (g8, 98, #[.bool by_, .slice Ay ny cy])] : List (Nat × TypeId × Array Value)) (.agg #[.bool bx, .slice Ax nx cx]) (.agg #[.bool by_, .slice Ay ny cy]) m k (m) (k * 10 ^ d))) (E := EI) [10, 11] [(2, Is (.pointer (some ⟨w.heap.size, 0, none⟩))), (3, Is (.pointer (some ⟨w.heap.size + 1, 0, none⟩))), (4, Is (.pointer (some ⟨w.heap.size + 1 + 1, 0, none⟩))), (5, Is (.pointer (some ⟨w.heap.size + 1 + 1 + 1, 0, none⟩))), (7, Is (.pointer (some ⟨g7, 0, none⟩))), (8, Is (.pointer (some ⟨g8, 0, none⟩)))] [(30, FNum m), (31, FNum k), (32, Is (.pointer (some ⟨w.heap.size, 1, none⟩))), (33, Is (.int .i64 (s : Nat))), (34, Is (.pointer (some ⟨w.heap.size + 1, 1, none⟩))), (35, Is (.int .i64 (t : Nat))), (36, Is (.int .i64 (d : Nat))), (37, FNum (k * 10 ^ d)), (38, Is (.pointer (some ⟨w.heap.size, 1, none⟩))), (39, Is (.int .i64 (s : Nat))), (6, Is (.int .i64 (s : Nat)))]
      [.op [7] none, .op [8] none, .op [2] none, .op [32] none, .op [3] none, .op [34] none, .op [33, 35] none, .op [31, 36] none, .op [2] none, .op [38] none, .phase 0 [4, 30] [], .phase 1 [5, 37] [], .op [39] none] (by as_aux_lemma => kernel_rfl) ?_ ?_ ?_ ?_ ?_ ⟨stable_is _ _, stable_is _ _, stable_is _ _, stable_is _ _, stable_is _ _, stable_is _ _, st_num, st_num, stable_is _ _, stable_is _ _, stable_is _ _, stable_is _ _, stable_is _ _, st_num, stable_is _ _, stable_is _ _, stable_is _ _, trivial⟩ ?_ (HS5.out) ?_ ?_
    · as_aux_lemma => kernel_rfl
    · as_aux_lemma => kernel_rfl
    · as_aux_lemma => kernel_rfl
    · as_aux_lemma => kernel_rfl
    · as_aux_lemma => kernel_rfl
    · exact ⟨rfl, rfl, rfl, rfl, rfl, rfl, trivial⟩
    · refine ⟨?_, ?_, ?_, ?_, ?_, ?_, ?_, ?_, ?_, ?_, ?_, ?_, ?_, trivial⟩
      · as_aux_lemma =>
          intro vals a W hS hL
          have e7 : a.tmps.getD 7 undef = .pointer (some ⟨g7, 0, none⟩) := hL.1
          clear hL
          have kb : Bk W g7 98 #[.bool bx, .slice Ax nx cx] := hS.bk (.tail _ (.tail _ (.head _)))
          have f0 := kb.cell 0
          have f1 := kb.cell 1
          clear kb
          have hn := hS.hx
          go_simp
          exact ⟨⟨fun d hd => by injection hd with hd; subst hd; exact hn, fun h => by cases h⟩, hS, EI.refl _⟩
      · as_aux_lemma =>
          intro vals a W hS hL
          have e8 : a.tmps.getD 8 undef = .pointer (some ⟨g8, 0, none⟩) := hL.1
          clear hL
          have kb : Bk W g8 98 #[.bool by_, .slice Ay ny cy] := hS.bk (.tail _ (.tail _ (.tail _ (.head _))))
          have f0 := kb.cell 0
          have f1 := kb.cell 1
          clear kb
          have hn := hS.hy
          go_simp
          exact ⟨⟨fun d hd => by injection hd with hd; subst hd; exact hn, fun h => by cases h⟩, hS, EI.refl _⟩
      · as_aux_lemma =>
          intro vals a W hS hL
          have e2 : a.tmps.getD 2 undef = .pointer (some ⟨w.heap.size, 0, none⟩) := hL.1
          clear hL
          go_simp
          exact ⟨⟨fun d hd => by injection hd with hd; subst hd; rfl, fun h => by cases h⟩, hS, EI.refl _⟩
      · as_aux_lemma =>
          intro vals a W hS hL
          have e32 : a.tmps.getD 32 undef = .pointer (some ⟨w.heap.size, 1, none⟩) := hL.1
          clear hL
          have kb : Bk W (w.heap.size) 27 #[.int .i64 m, .int .i64 (s : Nat)] := hS.bk (.head _)
          have f0 := kb.cell 0
          have f1 := kb.cell 1
          clear kb
          go_simp
          exact ⟨⟨fun d hd => by injection hd with hd; subst hd; rfl, fun h => by cases h⟩, hS, EI.refl _⟩
      · as_aux_lemma =>
          intro vals a W hS hL
          have e3 : a.tmps.getD 3 undef = .pointer (some ⟨w.heap.size + 1, 0, none⟩) := hL.1
          clear hL
          go_simp
          exact ⟨⟨fun d hd => by injection hd with hd; subst hd; rfl, fun h => by cases h⟩, hS, EI.refl _⟩
      · as_aux_lemma =>
          intro vals a W hS hL
          have e34 : a.tmps.getD 34 undef = .pointer (some ⟨w.heap.size + 1, 1, none⟩) := hL.1
          clear hL
          have kb : Bk W (w.heap.size + 1) 27 #[.int .i64 k, .int .i64 (t : Nat)] := hS.bk (.tail _ (.head _))
          have f0 := kb.cell 0
          have f1 := kb.cell 1
          clear kb
          go_simp
          exact ⟨⟨fun d hd => by injection hd with hd; subst hd; rfl, fun h => by cases h⟩, hS, EI.refl _⟩
      · as_aux_lemma =>
          intro vals a W hS hL
          have e33 : a.tmps.getD 33 undef = .int .i64 (s : Nat) := hL.1
          have e35 : a.tmps.getD 35 undef = .int .i64 (t : Nat) := hL.2.1
          clear hL
          have hd := HJ.out
          go_simp
          exact ⟨⟨fun d hd => by injection hd with hd; subst hd; rfl, fun h => by cases h⟩, hS, EI.refl _⟩
      · as_aux_lemma =>
          intro vals a W hS hL
          have e31 := hL.1
          have e36 : a.tmps.getD 36 undef = .int .i64 (d : Nat) := hL.2.1
          clear hL
          have hnum := e31
          obtain ⟨A1, n1, c1, e31, hm1, hc1, h31⟩ := e31
          rw [show a.tmps.getD 31 undef = _ from e31] at hnum
          go_simp
          refine (HUP.out _ _ hnum).mono ?_
          rintro e W1 ⟨y, rfl, hy, hb⟩
          exact ⟨_, rfl, ⟨fun d hd => by injection hd with hd; subst hd; exact hy, fun h => by cases h⟩, hS.call hb, EI.of_below hb⟩
      · as_aux_lemma =>
          intro vals a W hS hL
          have e2 : a.tmps.getD 2 undef = .pointer (some ⟨w.heap.size, 0, none⟩) := hL.1
          clear hL
          go_simp
          exact ⟨⟨fun d hd => by injection hd with hd; subst hd; rfl, fun h => by cases h⟩, hS, EI.refl _⟩
      · as_aux_lemma =>
          intro vals a W hS hL
          have e38 : a.tmps.getD 38 undef = .pointer (some ⟨w.heap.size, 1, none⟩) := hL.1
          clear hL
          have kb : Bk W (w.heap.size) 27 #[.int .i64 m, .int .i64 (s : Nat)] := hS.bk (.head _)
          have f0 := kb.cell 0
          have f1 := kb.cell 1
          clear kb
          go_simp
          exact ⟨⟨fun d hd => by injection hd with hd; subst hd; rfl, fun h => by cases h⟩, hS, EI.refl _⟩
      · as_aux_lemma =>
          intro a W vals hv hS hL hp
          have e4 : a.tmps.getD 4 undef = .pointer (some ⟨w.heap.size + 1 + 1, 0, none⟩) := hL.1
          have e30 := hL.2.1
          clear hL
          match vals, hv, hS with
          | [], _, hS =>
            obtain ⟨hB, hx, hy⟩ : SB w 4 ((w.heap.size + 1 + 1, 98, #[.bool false, .slice none 0 0]) :: (w.heap.size + 1 + 1 + 1, 98, #[.bool false, .slice none 0 0]) :: ([(w.heap.size, 27, #[.int .i64 m, .int .i64 (s : Nat)]), (w.heap.size + 1, 27, #[.int .i64 k, .int .i64 (t : Nat)]), (g7, 98, #[.bool bx, .slice Ax nx cx]), (g8, 98, #[.bool by_, .slice Ay ny cy])] : List (Nat × TypeId × Array Value))) W ∧ BigN W (.agg #[.bool bx, .slice Ax nx cx]) m ∧ BigN W (.agg #[.bool by_, .slice Ay ny cy]) k := hS
            have hnum := e30
            obtain ⟨A4, n4, c4, e30, hm4, hc4, h30⟩ := e30
            have kz := hB.bk _ (List.mem_cons_self ..)
            have hlt : ∀ x ∈ ((w.heap.size + 1 + 1 + 1, 98, #[.bool false, .slice none 0 0]) :: ([(w.heap.size, 27, #[.int .i64 m, .int .i64 (s : Nat)]), (w.heap.size + 1, 27, #[.int .i64 k, .int .i64 (t : Nat)]), (g7, 98, #[.bool bx, .slice Ax nx cx]), (g8, 98, #[.bool by_, .slice Ay ny cy])] : List (Nat × TypeId × Array Value))), x.1 ≠ w.heap.size + 1 + 1 := by simp <;> omega
            have z0 := kz.frozen 0
            have z1 := kz.frozen 1
            have q0 := kz.cell 0
            have q1 := kz.cell 1
            rw [show a.tmps.getD 30 undef = _ from e30] at hnum
            have hF := hB.set2 (by omega) hlt (.bool (decide (m < 0))) (.slice A4 n4 c4)
            have hN := BigN.box2 (b' := decide (m < 0)) (A' := A4) (n' := n4) (c' := c4) hnum kz
            have hx2 := BigN.box2 (b' := decide (m < 0)) (A' := A4) (n' := n4) (c' := c4) hx kz
            have hy2 := BigN.box2 (b' := decide (m < 0)) (A' := A4) (n' := n4) (c' := c4) hy kz
            have hE := (EI.set (i := 0) (u := .bool (decide (m < 0))) kz (show (98 : TypeId) ≠ 3 by decide) no_big).trans (EI.set (i := 1) (u := .slice A4 n4 c4) (show Bk (W.setCell ⟨w.heap.size + 1 + 1, 0, none⟩ (.bool (decide (m < 0)))) (w.heap.size + 1 + 1) 98 #[.bool (decide (m < 0)), .slice none 0 0] by simpa using kz.set_ 0 (.bool (decide (m < 0)))) (show (98 : TypeId) ≠ 3 by decide) no_big)
            rw [Array.getD_eq_getD_getElem?] at e30
            clear hS kz hB hnum hx hy
            go_simp
            exact ⟨⟨⟨_, hN, hF⟩, hx2, hy2⟩, trivial, hE⟩
      · as_aux_lemma =>
          intro a W vals hv hS hL hp
          have e5 : a.tmps.getD 5 undef = .pointer (some ⟨w.heap.size + 1 + 1 + 1, 0, none⟩) := hL.1
          have e37 := hL.2.1
          clear hL
          match vals, hv, hS with
          | [_], _, hS =>
            obtain ⟨⟨cs0, hN0, hB0⟩, hx, hy⟩ : (∃ cs, BigN W (.agg cs) (m) ∧ SB w 4 ((w.heap.size + 1 + 1, 98, cs) :: (w.heap.size + 1 + 1 + 1, 98, #[.bool false, .slice none 0 0]) :: ([(w.heap.size, 27, #[.int .i64 m, .int .i64 (s : Nat)]), (w.heap.size + 1, 27, #[.int .i64 k, .int .i64 (t : Nat)]), (g7, 98, #[.bool bx, .slice Ax nx cx]), (g8, 98, #[.bool by_, .slice Ay ny cy])] : List (Nat × TypeId × Array Value))) W) ∧ BigN W (.agg #[.bool bx, .slice Ax nx cx]) m ∧ BigN W (.agg #[.bool by_, .slice Ay ny cy]) k := hS
            have hB := hB0.turn
            have hnum := e37
            obtain ⟨A4, n4, c4, e37, hm4, hc4, h37⟩ := e37
            have kz := hB.bk _ (List.mem_cons_self ..)
            have hlt : ∀ x ∈ ((w.heap.size + 1 + 1, 98, cs0) :: ([(w.heap.size, 27, #[.int .i64 m, .int .i64 (s : Nat)]), (w.heap.size + 1, 27, #[.int .i64 k, .int .i64 (t : Nat)]), (g7, 98, #[.bool bx, .slice Ax nx cx]), (g8, 98, #[.bool by_, .slice Ay ny cy])] : List (Nat × TypeId × Array Value))), x.1 ≠ w.heap.size + 1 + 1 + 1 := by simp <;> omega
            have z0 := kz.frozen 0
            have z1 := kz.frozen 1
            have q0 := kz.cell 0
            have q1 := kz.cell 1
            rw [show a.tmps.getD 37 undef = _ from e37] at hnum
            have hF := hB.set2 (by omega) hlt (.bool (decide (k * 10 ^ d < 0))) (.slice A4 n4 c4)
            have hN := BigN.box2 (b' := decide (k * 10 ^ d < 0)) (A' := A4) (n' := n4) (c' := c4) hnum kz
            have hx2 := BigN.box2 (b' := decide (k * 10 ^ d < 0)) (A' := A4) (n' := n4) (c' := c4) hx kz
            have hy2 := BigN.box2 (b' := decide (k * 10 ^ d < 0)) (A' := A4) (n' := n4) (c' := c4) hy kz
            have hN2 := BigN.box2 (b' := decide (k * 10 ^ d < 0)) (A' := A4) (n' := n4) (c' := c4) hN0 kz
            have hE := (EI.set (i := 0) (u := .bool (decide (k * 10 ^ d < 0))) kz (show (98 : TypeId) ≠ 3 by decide) no_big).trans (EI.set (i := 1) (u := .slice A4 n4 c4) (show Bk (W.setCell ⟨w.heap.size + 1 + 1 + 1, 0, none⟩ (.bool (decide (k * 10 ^ d < 0)))) (w.heap.size + 1 + 1 + 1) 98 #[.bool (decide (k * 10 ^ d < 0)), .slice none 0 0] by simpa using kz.set_ 0 (.bool (decide (k * 10 ^ d < 0)))) (show (98 : TypeId) ≠ 3 by decide) no_big)
            rw [Array.getD_eq_getD_getElem?] at e37
            clear hS kz hB hnum hx hy hN0 hB0
            go_simp
            exact ⟨⟨⟨_, _, hN2, hN, hF.turn⟩, hx2, hy2⟩, trivial, hE⟩
      · as_aux_lemma =>
          intro vals a W hS hL
          have e39 : a.tmps.getD 39 undef = .int .i64 (s : Nat) := hL.1
          clear hL
          go_simp
          exact ⟨⟨fun d hd => by injection hd with hd; subst hd; rfl, fun h => by cases h⟩, hS, EI.refl _⟩
    · intro a W' vals hd hsz hT hF hv hP hS
      obtain ⟨v0, v1, rfl⟩ : ∃ v0 v1, vals = [v0, v1] := by
        match vals, hv with
        | [x, y], _ => exact ⟨x, y, rfl⟩
      obtain ⟨⟨cs4, cs5, hN4, hN5, hB⟩, -, -⟩ : (∃ cs cs', BigN W' (.agg cs) (m) ∧ BigN W' (.agg cs') (k * 10 ^ d) ∧ SB w 4 ((w.heap.size + 1 + 1, 98, cs) :: (w.heap.size + 1 + 1 + 1, 98, cs') :: ([(w.heap.size, 27, #[.int .i64 m, .int .i64 (s : Nat)]), (w.heap.size + 1, 27, #[.int .i64 k, .int .i64 (t : Nat)]), (g7, 98, #[.bool bx, .slice Ax nx cx]), (g8, 98, #[.bool by_, .slice Ay ny cy])] : List (Nat × TypeId × Array Value))) W') ∧ BigN W' (.agg #[.bool bx, .slice Ax nx cx]) m ∧ BigN W' (.agg #[.bool by_, .slice Ay ny cy]) k := hS
      have e4 : a.tmps.getD 4 undef = .pointer (some ⟨w.heap.size + 1 + 1, 0, none⟩) := hT 4 (by simp)
      have e5 : a.tmps.getD 5 undef = .pointer (some ⟨w.heap.size + 1 + 1 + 1, 0, none⟩) := hT 5 (by simp)
      have e6 : a.tmps.getD 6 undef = .int .i64 (s : Nat) := hT 6 (by simp)
      clear hT hF hP
      rw [act_lit 40 a hd hsz]
      simp only [List.range, List.range.loop, List.map, e4, e5, e6]
      clear e4 e5 e6
      obtain ⟨A4, n4, c4, hcs4, -⟩ := id hN4
      injection hcs4 with hcs4
      subst hcs4
      obtain ⟨A5, n5, c5, hcs5, -⟩ := id hN5
      injection hcs5 with hcs5
      subst hcs5
      have k4 := hB.bk _ (.head _)
      have k5 := hB.bk _ (.tail _ (.head _))
      have r0 := k4.cell 0
      have r1 := k4.cell 1
      have y0 := k5.cell 0
      have y1 := k5.cell 1
      have hbel := hB.bel
      clear HUP HS5 HJ hB
      go_wp2
      refine bodyPost_ret (v := .tuple #[.agg #[.bool (decide (m < 0)), .slice A4 n4 c4], .agg #[.bool (decide (k * 10 ^ d < 0)), .slice A5 n5 c5], .int .i64 (s : Nat)]) (by simp [results, Tryz.results69, go_sem, r0, r1, y0, y1]) rfl ?_
      exact ⟨_, _, by rw [HM.out], by rw [HV.out]; exact hN4, by rw [HU.out]; exact hN5, hbel⟩
end Go.Proofs.YtmbjmgmnicacpaaGreatDoor
