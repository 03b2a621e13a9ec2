/- An act by its slots: for the end of a region that leaves an act by facts. No condition. -/
/- Boxes of a call's own in a region that draws its order: what is kept of them behind each operation. No condition. -/
/- dec's whole numbers of 128 bits: over, drop, shorten by their contracts. Condition: within the bits. -/
/- dec's whole numbers of 128 bits: drop, shorten by their contracts. Condition: within the bits. -/
import Derived.Test.YtngkolcpbgibcaaGreatDoorEarly
import Derived.Test.YtngkolcpbgibcaaGreatDoorDiv64
set_option linter.unusedVariables false
set_option linter.unusedSimpArgs false
namespace Go.Proofs.YtngkolcpbgibcaaGreatDoor
open Go.RowKit
theorem act_lit (n : Nat) (x : Act) (hd : x.defers = []) (hs : x.tmps.size = n) : x = { tmps := ((List.range n).map fun i => x.tmps.getD i undef).toArray, defers := [] } := by
  obtain ⟨t, d⟩ := x; simp only at hd hs ⊢; subst hd
  congr 1
  apply Array.ext
  · simp [hs]
  · intro i h1 h2; simp [Array.getD_eq_getD_getElem?, h1]
end Go.Proofs.YtngkolcpbgibcaaGreatDoor
namespace Go.Proofs.YtngkolcpbgibcaaGreatDoor
open Go.RowKit
structure SB (w : World) (n : Nat) (bs : List (Nat × TypeId × Array Value)) (W : World) : Prop where
  bel : Below w.heap.size w W
  size : w.heap.size + n ≤ W.heap.size
  bk : ∀ x ∈ bs, Bk W x.1 x.2.1 x.2.2
section
variable {w W W' : World} {n g : Nat} {T : TypeId} {bs bs' : List (Nat × TypeId × Array Value)} {cs z : Array Value} {vals : List Value}
theorem SB.call (h : SB w n bs W) (hb : Below W.heap.size W W') : SB w n bs W' :=
  ⟨h.bel.trans (hb.mono h.bel.size), Nat.le_trans h.size hb.size, fun x hx => (h.bk x hx).below hb (h.bk x hx).lt⟩
theorem SB.drew (h : SB w n bs W) : SB w n bs W.drew := ⟨h.bel.drew, h.size, h.bk⟩
theorem SB.alloc (h : SB w n bs W) (T : TypeId) (cs : Array Value) : SB w n ((W.heap.size, T, cs) :: bs) (W.alloc (.cells cs T)) := by
  refine ⟨h.bel.alloc h.bel.size _, Nat.le_trans h.size (by simp), fun x hx => ?_⟩
  rcases List.mem_cons.1 hx with rfl | hx
  · exact Bk.new W T cs
  · exact (h.bk x hx).alloc _
theorem SB.tail {x : Nat × TypeId × Array Value} (h : SB w n (x :: bs) W) : SB w n bs W := ⟨h.bel, h.size, fun y hy => h.bk y (List.mem_cons_of_mem _ hy)⟩
theorem SB.set (h : SB w n ((g, T, cs) :: bs) W) (hg : w.heap.size ≤ g) (hne : ∀ x ∈ bs, x.1 ≠ g) (i : Nat) (u : Value) :
    SB w n ((g, T, cs.setIfInBounds i u) :: bs) (W.setCell ⟨g, i, none⟩ u) := by
  refine ⟨h.bel.setCell hg _, by have := h.size; simpa [World.setCell] using this, fun x hx => ?_⟩
  rcases List.mem_cons.1 hx with rfl | hx
  · exact (h.bk _ (List.mem_cons_self ..)).set_ i u
  · have hk := h.bk x (List.mem_cons_of_mem _ hx); have hn := hne x hx; unfold Bk at hk ⊢; rw [Below.heap_setCell W ⟨g, i, none⟩ u x.1 hn]; exact hk
theorem SB.set3 {a b c : Value} (h : SB w n ((g, T, #[a, b, c]) :: bs) W) (hg : w.heap.size ≤ g) (hne : ∀ x ∈ bs, x.1 ≠ g) (u0 u1 u2 : Value) :
    SB w n ((g, T, #[u0, u1, u2]) :: bs) (((W.setCell ⟨g, 0, none⟩ u0).setCell ⟨g, 1, none⟩ u1).setCell ⟨g, 2, none⟩ u2) := by
  have := ((h.set hg hne 0 u0).set hg hne 1 u1).set hg hne 2 u2
  simpa using this
theorem SB.set2 {a b : Value} (h : SB w n ((g, T, #[a, b]) :: bs) W) (hg : w.heap.size ≤ g) (hne : ∀ x ∈ bs, x.1 ≠ g) (u0 u1 : Value) :
    SB w n ((g, T, #[u0, u1]) :: bs) ((W.setCell ⟨g, 0, none⟩ u0).setCell ⟨g, 1, none⟩ u1) := by
  have := (h.set hg hne 0 u0).set hg hne 1 u1
  simpa using this
def S1 (w : World) (n : Nat) (bs bs' : List (Nat × TypeId × Array Value)) : List Value → World → Prop
  | [], W => SB w n bs W
  | _ :: _, W => SB w n bs' W
theorem S1.bk (h : S1 w n bs bs' vals W) {x : Nat × TypeId × Array Value} (h1 : x ∈ bs) (h2 : x ∈ bs') : Bk W x.1 x.2.1 x.2.2 := by
  match vals, h with
  | [], h => exact SB.bk h x h1
  | _ :: _, h => exact SB.bk h x h2
theorem S1.call (h : S1 w n bs bs' vals W) (hb : Below W.heap.size W W') : S1 w n bs bs' vals W' := by
  match vals, h with
  | [], h => exact SB.call h hb
  | _ :: _, h => exact SB.call h hb
def S2 (w : World) (n : Nat) (bs : List (Nat × TypeId × Array Value)) (T : TypeId) (z cs : Array Value) : List Value → World → Prop
  | [], W => SB w n bs W
  | [v], W => ∃ g, v = .pointer (some ⟨g, 0, none⟩) ∧ w.heap.size + n ≤ g ∧ SB w n ((g, T, z) :: bs) W
  | v :: _ :: _, W => ∃ g, v = .pointer (some ⟨g, 0, none⟩) ∧ w.heap.size + n ≤ g ∧ SB w n ((g, T, cs) :: bs) W
theorem S2.bk (h : S2 w n bs T z cs vals W) {x : Nat × TypeId × Array Value} (h1 : x ∈ bs) : Bk W x.1 x.2.1 x.2.2 := by
  match vals, h with
  | [], h => exact SB.bk h x h1
  | [_], ⟨g, _, _, h⟩ => exact h.bk x (List.mem_cons_of_mem _ h1)
  | _ :: _ :: _, ⟨g, _, _, h⟩ => exact h.bk x (List.mem_cons_of_mem _ h1)
theorem S2.call (h : S2 w n bs T z cs vals W) (hb : Below W.heap.size W W') : S2 w n bs T z cs vals W' := by
  match vals, h with
  | [], h => exact SB.call h hb
  | [_], ⟨g, h1, h2, h⟩ => exact ⟨g, h1, h2, SB.call h hb⟩
  | _ :: _ :: _, ⟨g, h1, h2, h⟩ => exact ⟨g, h1, h2, SB.call h hb⟩
theorem sb1 (w : World) (T : TypeId) (cs : Array Value) : SB w 1 [(w.heap.size, T, cs)] (w.alloc (.cells cs T)) :=
  ⟨bel0 w _, by simp, fun x hx => by
    obtain rfl := List.mem_singleton.1 hx
    exact Bk.new w T cs⟩
theorem SB.push (h : SB w n bs W) (hs : W.heap.size = w.heap.size + n) (T : TypeId) (cs : Array Value) : SB w (n + 1) ((w.heap.size + n, T, cs) :: bs) (W.alloc (.cells cs T)) := by
  have h1 := h.alloc T cs; rw [hs] at h1; exact ⟨h1.bel, by simp; omega, h1.bk⟩
end
theorem power_b {w : World} {k : Nat} (hk : k ≤ 19) :
    Calls Tryz.prog 96 #[.int .i64 k] w fun e w' => e = .returned (.int .u64 (10 ^ k : Nat)) ∧ Below w.heap.size w w' :=
  (power_any hk).mono fun _ _ ⟨h1, h2⟩ => ⟨h1, h2 ▸ Below.refl _ _⟩
end Go.Proofs.YtngkolcpbgibcaaGreatDoor
namespace Go.Proofs.YtngkolcpbgibcaaGreatDoor
open Go.RowKit
theorem div64_any {w : World} {h l y : Nat} (hl : l < 18446744073709551616) (hy : y < 18446744073709551616) (hhy : h < y) :
    Calls Tryz.prog 167 #[.int .u64 h, .int .u64 l, .int .u64 y] w fun e w' => e = .returned (.tuple #[.int .u64 ((h * 18446744073709551616 + l) / y : Nat), .int .u64 ((h * 18446744073709551616 + l) % y : Nat)]) ∧ ∃ n, w' = w.drewN n := by
  rcases Nat.eq_zero_or_pos h with rfl | h0
  · have := div64_low (w := w) hl hy hhy; rw [Nat.zero_mul, Nat.zero_add]; exact this.mono fun e w' ⟨h1, h2⟩ => ⟨h1, 1, h2⟩
  · exact (div64_high hl hy h0 hhy).mono fun e w' ⟨h1, h2⟩ => ⟨h1, 0, h2.symm⟩
theorem hl_div {n k : Nat} (_hn : n < 340282366920938463463374607431768211456) (h0 : 0 < k) :
    hi (n / k) = hi n / k ∧ lo (n / k) = (hi n % k * 18446744073709551616 + lo n) / k ∧ n % k = (hi n % k * 18446744073709551616 + lo n) % k := by
  have e : n = (hi n % k * 18446744073709551616 + lo n) + k * (hi n / k * 18446744073709551616) := by
    have h1 := Nat.div_add_mod (hi n) k; have h2 := hi_lo n; have h3 : k * (hi n / k * 18446744073709551616) = k * (hi n / k) * 18446744073709551616 := (Nat.mul_assoc ..).symm; omega
  have hlt : (hi n % k * 18446744073709551616 + lo n) / k < 18446744073709551616 := by
    refine (Nat.div_lt_iff_lt_mul h0).2 ?_; have h1 := Nat.mod_lt (hi n) h0; have h2 := lo_lt n; omega
  have e1 : n / k = (hi n % k * 18446744073709551616 + lo n) / k + hi n / k * 18446744073709551616 := by
    conv => lhs; rw [e]
    rw [Nat.add_mul_div_left _ _ h0]
  refine ⟨?_, ?_, ?_⟩
  · show n / k / 18446744073709551616 = _
    rw [e1]; generalize (hi n % k * 18446744073709551616 + lo n) / k = x at *; generalize hi n / k = y at *; omega
  · show n / k % 18446744073709551616 = _
    rw [e1]; generalize (hi n % k * 18446744073709551616 + lo n) / k = x at *; generalize hi n / k = y at *; omega
  · conv => lhs; rw [e]
    rw [Nat.add_mul_mod_self_left]
set_option maxRecDepth 100000 in
theorem over_any {w : World} {b : Bool} {n k : Nat} (hn : n < 340282366920938463463374607431768211456) (hk : k < 18446744073709551616) (h0 : 0 < k) :
    Calls Tryz.prog 94 #[wd b n, .int .u64 k] w fun e w' => e = .returned (.tuple #[wd b (n / k), .int .u64 (n % k : Nat)]) ∧ Below w.heap.size w w' := by
  obtain ⟨h1, h2, h3⟩ := hl_div hn h0; have hkz : ((k : Int) == 0) = false := by simp; omega
  have hk1 : 1 ≤ (k : Int) := by omega
  have HD := Lib.hid (fun w : World => div64_any (w := w) (lo_lt n) hk (Nat.mod_lt (hi n) h0))
  have hq : IntKind.u64.wrap ((hi n / k : Nat) : Int) = ((hi n / k : Nat) : Int) := by
    have h4 := Nat.div_le_self (hi n) k; have h5 := hi_lt hn; generalize hi n / k = x at *; exact IntWalk.u64_in _ (by omega)
  have D1 : ((hi n : Nat) : Int) / (k : Int) = ((hi n / k : Nat) : Int) := rfl; have D2 : ((hi n : Nat) : Int) % (k : Int) = ((hi n % k : Nat) : Int) := rfl; rw [wd_parts b n, wd_parts b (n / k), h1, h2, h3]; clear h1 h2 h3 hn hk h0; generalize (hi n % k * 18446744073709551616 + lo n) / k = x at *; generalize (hi n % k * 18446744073709551616 + lo n) % k = y at *; generalize hi n % k = r at *; generalize hi n / k = q at *; go_enter Tryz.func94, Tryz.ntmps94; go_wp2
  go_quiet ((go_at_call 167; exact Calls.quiet_of (HD.out _)))
  have hb := below_drewN (Below.refl ((w.alloc (.cells #[.bool b, .int .u64 (hi n : Nat), .int .u64 (lo n : Nat)] 119)).alloc (.cells #[.bool false, .int .u64 0, .int .u64 0] 119)).heap.size ((w.alloc (.cells #[.bool b, .int .u64 (hi n : Nat), .int .u64 (lo n : Nat)] 119)).alloc (.cells #[.bool false, .int .u64 0, .int .u64 0] 119))) nq; generalize ((w.alloc (.cells #[.bool b, .int .u64 (hi n : Nat), .int .u64 (lo n : Nat)] 119)).alloc (.cells #[.bool false, .int .u64 0, .int .u64 0] 119)).drewN nq = W at *
  have HSB : Hid (SB w 2 ([((w.heap.size + 1), 119, #[.bool false, .int .u64 0, .int .u64 0]), (w.heap.size, 119, #[.bool b, .int .u64 (hi n : Nat), .int .u64 (lo n : Nat)])] : List (Nat × TypeId × Array Value)) W) := Lib.hid (by
    obtain ⟨k1, k2, hb', hsz⟩ := bx2 hb; refine ⟨hb', hsz, fun x hx => ?_⟩
    rcases List.mem_cons.1 hx with rfl | hx
    · exact k2
    · obtain rfl := List.mem_singleton.1 hx
      exact k1)
  have HD1 := Lib.hid D1; have HQ := Lib.hid hq; have HK1 := Lib.hid hk1; have HKZ := Lib.hid hkz; clear hb D1 D2 hq hk1 hkz; go_wp2
  refine wp_region_phases (S := (S1 w 2 ([((w.heap.size + 1), 119, #[.bool false, .int .u64 0, .int .u64 0]), (w.heap.size, 119, #[.bool b, .int .u64 (hi n : Nat), .int .u64 (lo n : Nat)])] : List (Nat × TypeId × Array Value)) ([((w.heap.size + 1), 119, #[.bool b, .int .u64 (q : Int), .int .u64 (x : Int)]), (w.heap.size, 119, #[.bool b, .int .u64 (hi n : Nat), .int .u64 (lo n : Nat)])] : List (Nat × TypeId × Array Value)))) (E := (fun _ _ => True)) [9] [(1, Is (.int .u64 (k : Int))), (2, Is (.pointer (some ⟨w.heap.size, 0, none⟩))), (4, Is (.pointer (some ⟨(w.heap.size + 1), 0, none⟩))), (6, Is (.int .u64 (x : Int))), (7, Is (.int .u64 (y : Int)))] [(19, Is (.pointer (some ⟨w.heap.size, 0, none⟩))), (20, Is (.bool b)), (21, Is (.pointer (some ⟨w.heap.size, 1, none⟩))), (22, Is (.int .u64 (hi n : Nat))), (23, Is (.int .u64 (k : Int))), (24, Is (.int .u64 (q : Int))), (25, Is (.int .u64 (x : Int))), (26, Is (.agg #[.bool b, .int .u64 (q : Int), .int .u64 (x : Int)])), (27, Is (.int .u64 (y : Int))), (5, Is (.int .u64 (y : Int)))]
    [.op [2] none, .op [19] none, .op [2] none, .op [21] none, .op [1] none, .op [22, 23] none, .op [6] none, .op [20, 24, 25] none, .op [7] none, .phase 0 [4, 26] [], .op [27] none] (by as_aux_lemma => kernel_rfl) ?_ ?_ ?_ ?_ ?_ ⟨stable_is _ _, stable_is _ _, stable_is _ _, stable_is _ _, stable_is _ _, stable_is _ _, stable_is _ _, stable_is _ _, stable_is _ _, stable_is _ _, stable_is _ _, stable_is _ _, stable_is _ _, stable_is _ _, stable_is _ _, trivial⟩ ?_ (HSB.out.drew) ?_ ?_
  · as_aux_lemma => kernel_rfl
  · as_aux_lemma => kernel_rfl
  · as_aux_lemma => kernel_rfl
  · as_aux_lemma => kernel_rfl
  · as_aux_lemma => kernel_rfl
  · exact ⟨rfl, rfl, rfl, rfl, rfl, trivial⟩
  · refine ⟨?_, ?_, ?_, ?_, ?_, ?_, ?_, ?_, ?_, ?_, ?_, trivial⟩
    · as_aux_lemma => intro vals a W hS hL; have e2 : a.tmps.getD 2 undef = .pointer (some ⟨w.heap.size, 0, none⟩) := hL.1; clear hL; go_simp; exact ⟨dstY (by rfl), hS, trivial⟩
    · as_aux_lemma => intro vals a W hS hL; have e19 : a.tmps.getD 19 undef = .pointer (some ⟨w.heap.size, 0, none⟩) := hL.1; clear hL; have kb : Bk W w.heap.size 119 #[.bool b, .int .u64 (hi n : Nat), .int .u64 (lo n : Nat)] := hS.bk (.tail _ (.head _)) (.tail _ (.head _)); have f0 := kb.cell 0; clear kb; go_simp; exact ⟨dstY (by rfl), hS, trivial⟩
    · as_aux_lemma => intro vals a W hS hL; have e2 : a.tmps.getD 2 undef = .pointer (some ⟨w.heap.size, 0, none⟩) := hL.1; clear hL; go_simp; exact ⟨dstY (by rfl), hS, trivial⟩
    · as_aux_lemma => intro vals a W hS hL; have e21 : a.tmps.getD 21 undef = .pointer (some ⟨w.heap.size, 1, none⟩) := hL.1; clear hL; have kb : Bk W w.heap.size 119 #[.bool b, .int .u64 (hi n : Nat), .int .u64 (lo n : Nat)] := hS.bk (.tail _ (.head _)) (.tail _ (.head _)); have f1 := kb.cell 1; clear kb; go_simp; exact ⟨dstY (by rfl), hS, trivial⟩
    · as_aux_lemma => intro vals a W hS hL; have e1 : a.tmps.getD 1 undef = .int .u64 (k : Int) := hL.1; clear hL; go_simp; exact ⟨dstY (by rfl), hS, trivial⟩
    · as_aux_lemma =>
        intro vals a W hS hL; have e22 : a.tmps.getD 22 undef = .int .u64 (hi n : Nat) := hL.1; have e23 : a.tmps.getD 23 undef = .int .u64 (k : Int) := hL.2.1; clear hL; have d1 := HD1.out; have hq := HQ.out; have hk1 := HK1.out; have hkz := HKZ.out; have hk0 : ¬ k = 0 := by omega
        go_simp; exact ⟨dstY (by rfl), hS, trivial⟩
    · as_aux_lemma => intro vals a W hS hL; have e6 : a.tmps.getD 6 undef = .int .u64 (x : Int) := hL.1; clear hL; go_simp; exact ⟨dstY (by rfl), hS, trivial⟩
    · as_aux_lemma => intro vals a W hS hL; have e20 : a.tmps.getD 20 undef = .bool b := hL.1; have e24 : a.tmps.getD 24 undef = .int .u64 (q : Int) := hL.2.1; have e25 : a.tmps.getD 25 undef = .int .u64 (x : Int) := hL.2.2.1; clear hL; rw [Array.getD_eq_getD_getElem?] at e20 e24 e25; go_simp; exact ⟨dstY (by rfl), hS, trivial⟩
    · as_aux_lemma => intro vals a W hS hL; have e7 : a.tmps.getD 7 undef = .int .u64 (y : Int) := hL.1; clear hL; go_simp; exact ⟨dstY (by rfl), hS, trivial⟩
    · as_aux_lemma =>
        intro a W vals hv hS hL hp; have e4 : a.tmps.getD 4 undef = .pointer (some ⟨(w.heap.size + 1), 0, none⟩) := hL.1; have e26 : a.tmps.getD 26 undef = .agg #[.bool b, .int .u64 (q : Int), .int .u64 (x : Int)] := hL.2.1; clear hL
        match vals, hv, hS with
        | [], _, hS =>
          have hB : SB w 2 ([((w.heap.size + 1), 119, #[.bool false, .int .u64 0, .int .u64 0]), (w.heap.size, 119, #[.bool b, .int .u64 (hi n : Nat), .int .u64 (lo n : Nat)])] : List (Nat × TypeId × Array Value)) W := hS; have kz := hB.bk _ (List.mem_cons_self ..); have hlt : ∀ x ∈ ([(w.heap.size, 119, #[.bool b, .int .u64 (hi n : Nat), .int .u64 (lo n : Nat)])] : List (Nat × TypeId × Array Value)), x.1 ≠ (w.heap.size + 1) := by simp <;> omega
          have z0 := kz.frozen 0; have q0 := kz.cell 0; have z1 := kz.frozen 1; have q1 := kz.cell 1; have z2 := kz.frozen 2; have q2 := kz.cell 2; have hF := hB.set3 (by omega) hlt (.bool b : Value) (.int .u64 (q : Int) : Value) (.int .u64 (x : Int) : Value); rw [Array.getD_eq_getD_getElem?] at e26; clear hS kz hB; go_simp; exact ⟨hF, trivial, trivial⟩
    · as_aux_lemma => intro vals a W hS hL; have e27 : a.tmps.getD 27 undef = .int .u64 (y : Int) := hL.1; clear hL; go_simp; exact ⟨dstY (by rfl), hS, trivial⟩
  · intro a W' vals hd hsz hT hF hv _ hS
    obtain ⟨u, rfl⟩ : ∃ u, vals = [u] := by
      match vals, hv with
      | [u], _ => exact ⟨u, rfl⟩
    have hB : SB w 2 ([((w.heap.size + 1), 119, #[.bool b, .int .u64 (q : Int), .int .u64 (x : Int)]), (w.heap.size, 119, #[.bool b, .int .u64 (hi n : Nat), .int .u64 (lo n : Nat)])] : List (Nat × TypeId × Array Value)) W' := hS; have kz := hB.bk _ (List.mem_cons_self ..); have r0 := kz.cell 0; have r1 := kz.cell 1; have r2 := kz.cell 2; clear kz hS; have e4 : a.tmps.getD 4 undef = .pointer (some ⟨(w.heap.size + 1), 0, none⟩) := hT 4 (by simp); have e5 : a.tmps.getD 5 undef = .int .u64 (y : Int) := hT 5 (by simp); clear hT hF; go_wp2; refine bodyPost_ret (v := .tuple #[.agg #[.bool b, .int .u64 (q : Int), .int .u64 (x : Int)], .int .u64 (y : Int)]) ?_ hd ⟨rfl, hB.bel⟩; rw [Array.getD_eq_getD_getElem?] at e4 e5; simp [results, Tryz.results94, go_sem, e4, e5, r0, r1, r2]
end Go.Proofs.YtngkolcpbgibcaaGreatDoor
namespace Go.Proofs.YtngkolcpbgibcaaGreatDoor
open Go.RowKit
def dig (n : Nat) : Nat → Nat
  | 0 => 0
  | j + 1 => n / 10 ^ j % 10
theorem rnd_dig (n k : Nat) : rnd n k = n / 10 ^ k + if 5 ≤ dig n k then 1 else 0 := by
  cases k with
  | zero => simp [rnd, dig]
  | succ k => rfl
def wc3 (b : Bool) (n : Nat) : Array Value := #[.bool b, .int .u64 (hi n : Nat), .int .u64 (lo n : Nat)]
theorem SB.swap {w W : World} {n : Nat} {x y : Nat × TypeId × Array Value} (h : SB w n [x, y] W) : SB w n [y, x] W :=
  ⟨h.bel, h.size, fun z hz => h.bk z (by simp at hz ⊢; rcases hz with h | h <;> simp [h])⟩
set_option maxRecDepth 100000 in
theorem drop_any {w : World} {b : Bool} {n k : Nat} (hn : n + 1 < 340282366920938463463374607431768211456) (hk : k ≤ 1000) :
    Calls Tryz.prog 98 #[wd b n, .int .i64 k] w fun e w' => e = .returned (wd b (rnd n k)) ∧ Below w.heap.size w w' := by
  have H0 : Hid (SB w 2 [(w.heap.size, 119, wc3 b (n / 10 ^ 0)), (w.heap.size + 1, 119, #[.bool false, .int .u64 0, .int .u64 0])] ((w.alloc (.cells #[.bool b, .int .u64 (hi n : Nat), .int .u64 (lo n : Nat)] 119)).alloc (.cells #[.bool false, .int .u64 0, .int .u64 0] 119))) := Lib.hid (by
    rw [show n / 10 ^ 0 = n by simp]
    exact ((sb1 w 119 _).push (by simp) 119 _).swap)
  have hq : ∀ j, n / 10 ^ j + 1 < 340282366920938463463374607431768211456 := fun j => by have := Nat.div_le_self n (10 ^ j); omega
  have HQ := Lib.hid hq; have HR := Lib.hid (rnd_dig n k); clear hq hn; rw [wd_parts b n]; go_enter Tryz.func98, Tryz.ntmps98; go_wp2
  go_loopw [5, 7] (fun d i wr => ∃ j : Nat, j ≤ k ∧ i = .int .i64 j ∧ d = .int .u64 (dig n j : Nat) ∧ SB w 2 [(w.heap.size, 119, wc3 b (n / 10 ^ j)), (w.heap.size + 1, 119, #[.bool false, .int .u64 0, .int .u64 0])] wr) (fun _ i _ => k - (intOf i).toNat)
  case atStart => exact ⟨0, Nat.zero_le _, rfl, rfl, H0.out⟩
  case round =>
    obtain ⟨j, hj, rfl, rfl, hB⟩ := hrel; clear H0; have k1 := hB.bk _ (List.mem_cons_self ..); have k2 := hB.bk _ (List.mem_cons_of_mem _ (List.mem_cons_self ..)); unfold wc3 at k1; have c10 := k1.cell 0; have c11 := k1.cell 1; have c12 := k1.cell 2; have HB := Lib.hid hB
    by_cases hjk : j < k
    · have hjk' : (j : Int) < (k : Int) := by omega
      clear hB k1 k2
      go_wp2_with fail
      refine (over_any (b := b) (n := n / 10 ^ j) (k := 10) (by have := HQ.out j; omega) (by decide) (by decide)).mono ?_; rintro e w1 ⟨rfl, hb⟩; obtain ⟨y, hy⟩ : ∃ y, n / 10 ^ j % 10 = y := ⟨_, rfl⟩
      rw [hy]; have HY := Lib.hid (show dig n (j + 1) = y from hy); clear hy; have hB1 := HB.out.call hb; clear hb HB c10 c11 c12; have k1 := hB1.bk _ (List.mem_cons_self ..); unfold wc3 at k1; have z10 := k1.frozen 0; have z11 := k1.frozen 1; have z12 := k1.frozen 2; have c10 := k1.cell 0; have c11 := k1.cell 1; have c12 := k1.cell 2; have hlt : ∀ x ∈ ([(w.heap.size + 1, 119, #[.bool false, .int .u64 0, .int .u64 0])] : List (Nat × TypeId × Array Value)), x.1 ≠ w.heap.size := by simp
      have HF := Lib.hid (SB.set3 hB1 (Nat.le_refl _) hlt (.bool b) (.int .u64 (hi (n / 10 ^ j / 10) : Nat)) (.int .u64 (lo (n / 10 ^ j / 10) : Nat))); have HE := Lib.hid (rnd_step n j); rw [wd_parts]; clear k1 hB1 hlt
      go_wp2_with fail
      go_roundw
      case rel =>
        refine ⟨j + 1, by omega, by go_num, by rw [HY.out], ?_⟩; unfold wc3; rw [HE.out]; exact HF.out
      case measure => simp [intOf]; omega
    · have hjk2 : j = k := by omega
      subst hjk2; have z20 := k2.frozen 0; have z21 := k2.frozen 1; have z22 := k2.frozen 2; have c20 := k2.cell 0; have c21 := k2.cell 1; have c22 := k2.cell 2
      by_cases h5 : 5 ≤ dig n j
      · have h5' : (5 : Int) ≤ ((dig n j : Nat) : Int) := by omega
        have HV := Lib.hid (show rnd n j = n / 10 ^ j + 1 by rw [HR.out, if_pos h5]); clear hB k1 k2 h5
        go_wp2_with fail
        refine (grow_any (b := b) (n := n / 10 ^ j) (HQ.out j)).mono ?_; rintro e w1 ⟨rfl, hb⟩; have hB1 := HB.out.call hb; clear hb HB c10 c11 c12 z20 z21 z22 c20 c21 c22; have k2 := hB1.bk _ (List.mem_cons_of_mem _ (List.mem_cons_self ..)); have hbel := hB1.bel; have z20 := k2.frozen 0; have z21 := k2.frozen 1; have z22 := k2.frozen 2; have c20 := k2.cell 0; have c21 := k2.cell 1; have c22 := k2.cell 2; rw [wd_parts]; clear k2 hB1; go_wp2; refine bodyPost_ret (v := wd b (n / 10 ^ j + 1)) ?_ rfl ⟨by rw [HV.out], ((hbel.setCell (by simp) _).setCell (by simp) _).setCell (by simp) _⟩; rw [wd_parts]; simp [results, Tryz.results98, go_sem, c20, c21, c22]
      · have h5' : ((dig n j : Nat) : Int) < 5 := by omega
        have HV := Lib.hid (show rnd n j = n / 10 ^ j by rw [HR.out, if_neg h5, Nat.add_zero]); have hbel := hB.bel; clear hB k1 k2 h5; go_wp2; refine bodyPost_ret (v := wd b (n / 10 ^ j)) ?_ rfl ⟨by rw [HV.out], ((hbel.setCell (by simp) _).setCell (by simp) _).setCell (by simp) _⟩; rw [wd_parts]; simp [results, Tryz.results98, go_sem, c20, c21, c22]
theorem strip_b {s m s' n : Nat} (h : strip s' m = strip s n) (hd : s' = 0 ∨ m % 10 ≠ 0) : (strip s n).1 = m ∧ (strip s n).2 = s' := by
  rw [← h, strip_id hd]; exact ⟨rfl, rfl⟩
set_option maxRecDepth 100000 in
theorem shorten_any {w : World} {b : Bool} {n s : Nat} (hn : n < 340282366920938463463374607431768211456) (hs : s ≤ 1000) :
    Calls Tryz.prog 161 #[wd b n, .int .i64 s] w fun e w' => e = .returned (.tuple #[wd b (strip s n).1, .int .i64 ((strip s n).2 : Nat)]) ∧ Below w.heap.size w w' := by
  have H0 : Hid (SB w 2 [(w.heap.size, 119, wc3 b n), (w.heap.size + 1, 119, #[.bool false, .int .u64 0, .int .u64 0])] ((w.alloc (.cells #[.bool b, .int .u64 (hi n : Nat), .int .u64 (lo n : Nat)] 119)).alloc (.cells #[.bool false, .int .u64 0, .int .u64 0] 119))) := Lib.hid
    ((sb1 w 119 _).push (by simp) 119 _).swap
  by_cases hz : n = 0
  · have HZ := Lib.hid (show decide (n = 0) = true by simp [hz]); have HV := Lib.hid (show (strip s n).1 = n ∧ (strip s n).2 = 0 by rw [hz, strip_zero]; exact ⟨rfl, rfl⟩); clear hz hn; rw [wd_parts b n]; go_enter Tryz.func161, Tryz.ntmps161
    go_wp2_with fail
    refine (isZero_any (b := b) (n := n)).mono ?_; rintro e w1 ⟨rfl, hb⟩; rw [HZ.out]; have hB := H0.out.call hb; clear H0 hb; have k1 := hB.bk _ (List.mem_cons_self ..); have k2 := hB.bk _ (List.mem_cons_of_mem _ (List.mem_cons_self ..)); have hbel := hB.bel; unfold wc3 at k1; have c10 := k1.cell 0; have c11 := k1.cell 1; have c12 := k1.cell 2; have z20 := k2.frozen 0; have z21 := k2.frozen 1; have z22 := k2.frozen 2; have c20 := k2.cell 0; have c21 := k2.cell 1; have c22 := k2.cell 2; clear hB k1 k2; go_wp2; refine bodyPost_ret (v := .tuple #[wd b n, .int .i64 0]) ?_ rfl ⟨by rw [HV.out.1, HV.out.2]; rfl, ((hbel.setCell (by simp) _).setCell (by simp) _).setCell (by simp) _⟩; rw [wd_parts]; simp [results, Tryz.results161, go_sem, c20, c21, c22]
  · have HZ := Lib.hid (show decide (n = 0) = false by simp [hz]); have HN := Lib.hid hn; clear hz hn; rw [wd_parts b n]; go_enter Tryz.func161, Tryz.ntmps161
    go_wp2_with fail
    refine (isZero_any (b := b) (n := n)).mono ?_; rintro e w1 ⟨rfl, hb⟩; rw [HZ.out]; have HB1 := Lib.hid (H0.out.call hb); clear H0 hb; go_wp2
    go_loopw [1] (fun t wr => ∃ s' m : Nat, t = .int .i64 s' ∧ s' ≤ s ∧ m ≤ n ∧ strip s' m = strip s n ∧ SB w 2 [(w.heap.size, 119, wc3 b m), (w.heap.size + 1, 119, #[.bool false, .int .u64 0, .int .u64 0])] wr) (fun t _ => (intOf t).toNat)
    case atStart => exact ⟨s, n, rfl, Nat.le_refl _, Nat.le_refl _, rfl, HB1.out⟩
    case round =>
      obtain ⟨s', m, rfl, hss, hmn, hst, hB⟩ := hrel; clear HB1; have k1 := hB.bk _ (List.mem_cons_self ..); have k2 := hB.bk _ (List.mem_cons_of_mem _ (List.mem_cons_self ..)); have hbel := hB.bel; unfold wc3 at k1; have c10 := k1.cell 0; have c11 := k1.cell 1; have c12 := k1.cell 2; have HB := Lib.hid hB; have HST := Lib.hid hst
      by_cases h0 : 0 < s'
      · have h0' : (0 : Int) < (s' : Int) := by omega
        clear hB k1 k2 hst
        go_wp2_with fail
        refine (over_any (b := b) (n := m) (k := 10) (by have := HN.out; omega) (by decide) (by decide)).mono ?_; rintro e w1 ⟨rfl, hb⟩; obtain ⟨y, hy⟩ : ∃ y, m % 10 = y := ⟨_, rfl⟩
        obtain ⟨x, hx⟩ : ∃ x, m / 10 = x := ⟨_, rfl⟩
        rw [hy, hx, wd_parts]; have HY := Lib.hid hy; have HX := Lib.hid hx; clear hy hx hbel; have hB1 := (HB.out.call hb).alloc 119 #[.bool b, .int .u64 (hi x : Nat), .int .u64 (lo x : Nat)]; have HB1 := Lib.hid hB1.tail; have hsz := hB1.tail.size; have hsz1 := (HB.out.call hb).size; clear hb HB c10 c11 c12
        by_cases hy0 : 0 < y
        · have hy0' : (0 : Int) < (y : Int) := by omega
          have HV := Lib.hid (strip_b HST.out (.inr (by rw [HY.out]; omega))); have k1 := HB1.out.bk _ (List.mem_cons_self ..); have k2 := HB1.out.bk _ (List.mem_cons_of_mem _ (List.mem_cons_self ..)); have hbel := HB1.out.bel; unfold wc3 at k1; have c10 := k1.cell 0; have c11 := k1.cell 1; have c12 := k1.cell 2; have z20 := k2.frozen 0; have z21 := k2.frozen 1; have z22 := k2.frozen 2; have c20 := k2.cell 0; have c21 := k2.cell 1; have c22 := k2.cell 2; clear k1 k2 hB1 HB1
          go_wp2_with fail
          refine bodyPost_ret (v := .tuple #[wd b m, .int .i64 (s' : Int)]) ?_ rfl ⟨by rw [HV.out.1, HV.out.2], ((hbel.setCell (by simp) _).setCell (by simp) _).setCell (by simp) _⟩; rw [wd_parts]; simp [results, Tryz.results161, go_sem, c20, c21, c22]
        · have hy0' : y = 0 := by omega
          subst hy0'; have k0 := hB1.bk _ (List.mem_cons_self ..); have k1 := HB1.out.bk _ (List.mem_cons_self ..); unfold wc3 at k1; have d0 := k0.cell 0; have d1 := k0.cell 1; have d2 := k0.cell 2; have c10 := k1.cell 0; have c11 := k1.cell 1; have c12 := k1.cell 2; have z10 := k1.frozen 0; have z11 := k1.frozen 1; have z12 := k1.frozen 2; have hlt : ∀ x ∈ ([(w.heap.size + 1, 119, #[.bool false, .int .u64 0, .int .u64 0])] : List (Nat × TypeId × Array Value)), x.1 ≠ w.heap.size := by simp
          have hB2 := HB1.out; unfold wc3 at hB2; have HF := Lib.hid (SB.set3 hB2 (Nat.le_refl _) hlt (.bool b) (.int .u64 (hi x : Nat)) (.int .u64 (lo x : Nat)))
          have HS := Lib.hid (show strip (s' - 1) x = strip s n by
            rw [← HST.out]; obtain ⟨t, rfl⟩ : ∃ t, s' = t + 1 := ⟨s' - 1, by omega⟩
            rw [strip, if_pos HY.out, HX.out, Nat.add_sub_cancel])
          clear k0 k1 hB1 hB2 HB1 hlt
          go_wp2_with fail
          go_roundw
          case rel =>
            refine ⟨s' - 1, x, by rw [Int.natCast_sub (by omega)]; rfl, by omega, by have := HX.out; omega, HS.out, ?_⟩; unfold wc3; exact HF.out
          case measure => simp [intOf]; omega
      · have h0' : s' = 0 := by omega
        subst h0'; have HV := Lib.hid (strip_b hst (.inl rfl)); have z20 := k2.frozen 0; have z21 := k2.frozen 1; have z22 := k2.frozen 2; have c20 := k2.cell 0; have c21 := k2.cell 1; have c22 := k2.cell 2; clear hB k1 k2 hst
        go_wp2_with fail
        refine bodyPost_ret (v := .tuple #[wd b m, .int .i64 0]) ?_ rfl ⟨by rw [HV.out.1, HV.out.2]; rfl, ((hbel.setCell (by simp) _).setCell (by simp) _).setCell (by simp) _⟩; rw [wd_parts]; simp [results, Tryz.results161, go_sem, c20, c21, c22]
end Go.Proofs.YtngkolcpbgibcaaGreatDoor
