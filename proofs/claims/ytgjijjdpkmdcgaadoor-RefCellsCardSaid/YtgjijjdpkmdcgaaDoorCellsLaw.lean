/- cashbooklaw8.RefCells by its contract: it returns true. Condition: strconv.Itoa keeps its contract. -/
import Derived.Test.YtgjijjdpkmdcgaaDoorKnown8
import Derived.Deep.QuietTactic
import Derived.BigQuiet
namespace Go.Proofs.YtgjijjdpkmdcgaaDoor
open Go.RowKit

theorem own_open {w : World} {base k n : Nat} {e : TypeId} {v : Value} {xs : List Value} (ho : w.ownsRow base e k v n xs) (hn : 0 < n) :
    ∃ g cap, v = .slice (some ⟨g, 0, none⟩) n cap ∧ n ≤ cap ∧ ∀ (i : Nat) u, xs[i]? = some u → w.cell? ⟨g, i, none⟩ = some u := by
  rcases ho.2 with ⟨_, h⟩ | ⟨g, cap, cur, rfl, _, hg, hnc, _, _, _⟩
  · omega
  · refine ⟨g, cap, rfl, hnc, fun i u hu => ?_⟩
    have := ho.cells (g := g) rfl i u hu
    rwa [show (⟨g, 0, none⟩ : Addr).add i = ⟨g, i, none⟩ by unfold Addr.add; split <;> simp_all] at this
theorem below_drewN (w : World) (k : Nat) : Below w.heap.size w (w.drewN k) := ⟨rfl, rfl, rfl, Nat.le_refl _, fun _ _ => rfl⟩
set_option maxRecDepth 20000 in
set_option maxHeartbeats 2000000 in
theorem cellsL_bad {w : World} (HV : Tens w) (r1 c1 r2 c2 b d : Int) (x1 y1 x2 y2 : Bool) (h : ckI r1 c1 = 12 ∨ ckI r2 c2 = 12 ∨ gdB b d = false) :
    Calls Tryd.prog 7 #[.agg #[.int .i64 r1, .int .i64 c1, .bool x1, .bool y1], .agg #[.int .i64 r2, .int .i64 c2, .bool x2, .bool y2], .agg #[.int .i64 b, .int .i64 d]] w fun e w' => e = .returned (.bool true) ∧ Below w.heap.size w w' := by
  have HK : Hid (∀ W : World, Below w.heap.size w W → Calls Tryd.prog 9 #[] W fun e w' => e = .returned (.bool true) ∧ Below W.heap.size W w') := Lib.hid (fun W hb => known8_any (HV.below hb))
  have H1 : Hid (∀ W : World, Calls Tryd.prog 10 #[.agg #[.int .i64 r1, .int .i64 c1, .bool x1, .bool y1]] W fun e w' => e = .returned (.int .i64 (ckI r1 c1)) ∧ Below W.heap.size W w') := Lib.hid (fun W => check_any r1 c1 x1 y1)
  have H2 : Hid (∀ W : World, Calls Tryd.prog 10 #[.agg #[.int .i64 r2, .int .i64 c2, .bool x2, .bool y2]] W fun e w' => e = .returned (.int .i64 (ckI r2 c2)) ∧ Below W.heap.size W w') := Lib.hid (fun W => check_any r2 c2 x2 y2)
  have H3 : Hid (∀ W : World, Calls Tryd.prog 13 #[.agg #[.int .i64 b, .int .i64 d]] W fun e w' => e = .returned (.bool (gdB b d)) ∧ Below W.heap.size W w') := Lib.hid (fun W => good_any b d)
  have HB : Hid (SB w 3 ([(w.heap.size + 1 + 1, 25, #[.int .i64 b, .int .i64 d]), (w.heap.size + 1, 23, #[.int .i64 r2, .int .i64 c2, .bool x2, .bool y2]), (w.heap.size, 23, #[.int .i64 r1, .int .i64 c1, .bool x1, .bool y1])] : List (Nat × TypeId × Array Value)) (((w.alloc (.cells #[.int .i64 r1, .int .i64 c1, .bool x1, .bool y1] 23)).alloc (.cells #[.int .i64 r2, .int .i64 c2, .bool x2, .bool y2] 23)).alloc (.cells #[.int .i64 b, .int .i64 d] 25))) := Lib.hid (((sb1 w 23 #[.int .i64 r1, .int .i64 c1, .bool x1, .bool y1]).push (by simp) 23 #[.int .i64 r2, .int .i64 c2, .bool x2, .bool y2]).push (by simp) 25 #[.int .i64 b, .int .i64 d])
  clear HV
  rcases ck_cases r1 c1 with ⟨-, e1⟩ | ⟨-, e1⟩
  · rw [e1] at H1 h
    rcases ck_cases r2 c2 with ⟨-, e2⟩ | ⟨-, e2⟩
    · rw [e2] at H2 h
      have hg : gdB b d = false := by
        rcases h with h | h | h
        · cases h
        · cases h
        · exact h
      rw [hg] at H3
      clear h e1 e2 hg
      go_enter Tryd.func7, Tryd.ntmps7
      go_wp2_with fail
      refine (HK.out _ HB.out.bel).mono ?_
      rintro e w1 ⟨rfl, hb⟩
      have hB := HB.out.call hb
      clear hb HB
      have HB := Lib.hid hB
      clear hB
      have kp := HB.out.box (i := 2) rfl
      have cp0 := kp.cell 0
      have cp1 := kp.cell 1
      have cp2 := kp.cell 2
      have cp3 := kp.cell 3
      clear kp
      go_wp2_with fail
      refine (H1.out _).mono ?_
      rintro e w2 ⟨rfl, hb⟩
      have hB := HB.out.call hb
      clear hb HB
      have HB := Lib.hid hB
      clear hB
      clear cp0 cp1 cp2 cp3
      have kq := HB.out.box (i := 1) rfl
      have cq0 := kq.cell 0
      have cq1 := kq.cell 1
      have cq2 := kq.cell 2
      have cq3 := kq.cell 3
      clear kq
      go_wp2_with fail
      refine (H2.out _).mono ?_
      rintro e w3 ⟨rfl, hb⟩
      have hB := HB.out.call hb
      clear hb HB
      have HB := Lib.hid hB
      clear hB
      clear cq0 cq1 cq2 cq3
      have ks := HB.out.box (i := 0) rfl
      have cs0 := ks.cell 0
      have cs1 := ks.cell 1
      clear ks
      go_wp2_with fail
      refine (H3.out _).mono ?_
      rintro e w4 ⟨rfl, hb⟩
      have hB := HB.out.call hb
      clear hb HB
      have HB := Lib.hid hB
      clear hB
      clear cs0 cs1
      clear HK H1 H2 H3
      have hbel := HB.out.bel
      go_wp2
      go_ret
      exact ⟨rfl, hbel⟩
    · rw [e2] at H2
      clear h e1 e2
      go_enter Tryd.func7, Tryd.ntmps7
      go_wp2_with fail
      refine (HK.out _ HB.out.bel).mono ?_
      rintro e w1 ⟨rfl, hb⟩
      have hB := HB.out.call hb
      clear hb HB
      have HB := Lib.hid hB
      clear hB
      have kp := HB.out.box (i := 2) rfl
      have cp0 := kp.cell 0
      have cp1 := kp.cell 1
      have cp2 := kp.cell 2
      have cp3 := kp.cell 3
      clear kp
      go_wp2_with fail
      refine (H1.out _).mono ?_
      rintro e w2 ⟨rfl, hb⟩
      have hB := HB.out.call hb
      clear hb HB
      have HB := Lib.hid hB
      clear hB
      clear cp0 cp1 cp2 cp3
      have kq := HB.out.box (i := 1) rfl
      have cq0 := kq.cell 0
      have cq1 := kq.cell 1
      have cq2 := kq.cell 2
      have cq3 := kq.cell 3
      clear kq
      go_wp2_with fail
      refine (H2.out _).mono ?_
      rintro e w3 ⟨rfl, hb⟩
      have hB := HB.out.call hb
      clear hb HB
      have HB := Lib.hid hB
      clear hB
      clear cq0 cq1 cq2 cq3
      clear HK H1 H2 H3
      have hbel := HB.out.bel
      go_wp2
      go_ret
      exact ⟨rfl, hbel⟩
  · rw [e1] at H1
    clear h e1
    go_enter Tryd.func7, Tryd.ntmps7
    go_wp2_with fail
    refine (HK.out _ HB.out.bel).mono ?_
    rintro e w1 ⟨rfl, hb⟩
    have hB := HB.out.call hb
    clear hb HB
    have HB := Lib.hid hB
    clear hB
    have kp := HB.out.box (i := 2) rfl
    have cp0 := kp.cell 0
    have cp1 := kp.cell 1
    have cp2 := kp.cell 2
    have cp3 := kp.cell 3
    clear kp
    go_wp2_with fail
    refine (H1.out _).mono ?_
    rintro e w2 ⟨rfl, hb⟩
    have hB := HB.out.call hb
    clear hb HB
    have HB := Lib.hid hB
    clear hB
    clear cp0 cp1 cp2 cp3
    clear HK H1 H2 H3
    have hbel := HB.out.bel
    go_wp2
    go_ret
    exact ⟨rfl, hbel⟩

set_option maxRecDepth 20000 in
set_option maxHeartbeats 4000000 in
theorem cellsL_big {w : World} (HV : Tens w) (r1 c1 r2 c2 b d : Int) (x1 y1 x2 y2 : Bool) {p q p2 q2 : Int} {h k : Nat} (e1 : ckI r1 c1 = 0) (e2 : ckI r2 c2 = 0) (hg : gdB b d = true)
    (HB1 : Hid (∀ W : World, Calls Tryd.prog 20 #[.agg #[.int .i64 r1, .int .i64 c1, .bool x1, .bool y1, .int .i64 r2, .int .i64 c2, .bool x2, .bool y2], .agg #[.int .i64 b, .int .i64 d]] W fun e w' => e = .returned (.tuple #[.agg #[.int .i64 p, .int .i64 q], .agg #[.int .i64 p2, .int .i64 q2]]) ∧ Below W.heap.size W w'))
    (HB2 : Hid (∀ W : World, Calls Tryd.prog 20 #[.agg #[.int .i64 r2, .int .i64 c2, .bool x2, .bool y2, .int .i64 r1, .int .i64 c1, .bool x1, .bool y1], .agg #[.int .i64 b, .int .i64 d]] W fun e w' => e = .returned (.tuple #[.agg #[.int .i64 p, .int .i64 q], .agg #[.int .i64 p2, .int .i64 q2]]) ∧ Below W.heap.size W w'))
    (HCe : Hid (∀ W : World, Calls Tryd.prog 25 #[.agg #[.int .i64 r1, .int .i64 c1, .bool x1, .bool y1, .int .i64 r2, .int .i64 c2, .bool x2, .bool y2], .agg #[.int .i64 b, .int .i64 d]] W fun e w' => CellsAt 25 W.heap.size p q k 0 e w' ∧ Below W.heap.size W w'))
    (h0 : 0 ≤ p) (h2 : p2 < 65536) (h3 : 0 ≤ q) (h5 : q2 < 256) (hh : p2 - p + 1 = (h : Int)) (hk : q2 - q + 1 = (k : Int)) (b0 : 0 < h) (b1 : 0 < k) (hc : 4096 < h * k) :
    Calls Tryd.prog 7 #[.agg #[.int .i64 r1, .int .i64 c1, .bool x1, .bool y1], .agg #[.int .i64 r2, .int .i64 c2, .bool x2, .bool y2], .agg #[.int .i64 b, .int .i64 d]] w fun e w' => e = .returned (.bool true) ∧ Below w.heap.size w w' := by
  have HK : Hid (∀ W : World, Below w.heap.size w W → Calls Tryd.prog 9 #[] W fun e w' => e = .returned (.bool true) ∧ Below W.heap.size W w') := Lib.hid (fun W hb => known8_any (HV.below hb))
  have H1 : Hid (∀ W : World, Calls Tryd.prog 10 #[.agg #[.int .i64 r1, .int .i64 c1, .bool x1, .bool y1]] W fun e w' => e = .returned (.int .i64 0) ∧ Below W.heap.size W w') := Lib.hid (fun W => by
    have := check_any (w := W) r1 c1 x1 y1
    rw [e1] at this
    exact this)
  have H2 : Hid (∀ W : World, Calls Tryd.prog 10 #[.agg #[.int .i64 r2, .int .i64 c2, .bool x2, .bool y2]] W fun e w' => e = .returned (.int .i64 0) ∧ Below W.heap.size W w') := Lib.hid (fun W => by
    have := check_any (w := W) r2 c2 x2 y2
    rw [e2] at this
    exact this)
  have H3 : Hid (∀ W : World, Calls Tryd.prog 13 #[.agg #[.int .i64 b, .int .i64 d]] W fun e w' => e = .returned (.bool true) ∧ Below W.heap.size W w') := Lib.hid (fun W => by
    have := good_any (w := W) b d
    rw [hg] at this
    exact this)
  have HB : Hid (SB w 3 ([(w.heap.size + 1 + 1, 25, #[.int .i64 b, .int .i64 d]), (w.heap.size + 1, 23, #[.int .i64 r2, .int .i64 c2, .bool x2, .bool y2]), (w.heap.size, 23, #[.int .i64 r1, .int .i64 c1, .bool x1, .bool y1])] : List (Nat × TypeId × Array Value)) (((w.alloc (.cells #[.int .i64 r1, .int .i64 c1, .bool x1, .bool y1] 23)).alloc (.cells #[.int .i64 r2, .int .i64 c2, .bool x2, .bool y2] 23)).alloc (.cells #[.int .i64 b, .int .i64 d] 25))) := Lib.hid (((sb1 w 23 #[.int .i64 r1, .int .i64 c1, .bool x1, .bool y1]).push (by simp) 23 #[.int .i64 r2, .int .i64 c2, .bool x2, .bool y2]).push (by simp) 25 #[.int .i64 b, .int .i64 d])
  have hm : h * k ≤ 65536 * 256 := Nat.mul_le_mul (by omega) (by omega)
  have HM := Lib.hid (show wrap64 ((p2 - p + 1) * (q2 - q + 1)) = ((h * k : Nat) : Int) by
    rw [hh, hk, ← Int.natCast_mul]
    exact IntWalk.wrap64_in _ ⟨by omega, by omega⟩)
  have HKK := Lib.hid hk
  have l1 : p ≤ p2 := by omega
  have l2 : q ≤ q2 := by omega
  have l3 : p2 - p < 65536 := by omega
  have l4 : q2 - q < 256 := by omega
  have hk256 : k ≤ 256 := by omega
  have hnp : 0 < h * k := Nat.mul_pos b0 b1
  obtain ⟨n, hn⟩ : ∃ n, h * k = n := ⟨_, rfl⟩
  rw [hn] at hm hc HM hnp
  clear hh hk hn e1 e2 hg HV
  go_enter Tryd.func7, Tryd.ntmps7
  go_wp2_with fail
  refine (HK.out _ HB.out.bel).mono ?_
  rintro e w1 ⟨rfl, hb⟩
  have hB := HB.out.call hb
  clear hb HB
  have HB := Lib.hid hB
  clear hB
  have kp := HB.out.box (i := 2) rfl
  have cp0 := kp.cell 0
  have cp1 := kp.cell 1
  have cp2 := kp.cell 2
  have cp3 := kp.cell 3
  clear kp
  go_wp2_with fail
  refine (H1.out _).mono ?_
  rintro e w2 ⟨rfl, hb⟩
  have hB := HB.out.call hb
  clear hb HB
  have HB := Lib.hid hB
  clear hB
  clear cp0 cp1 cp2 cp3
  have kq := HB.out.box (i := 1) rfl
  have cq0 := kq.cell 0
  have cq1 := kq.cell 1
  have cq2 := kq.cell 2
  have cq3 := kq.cell 3
  clear kq
  go_wp2_with fail
  refine (H2.out _).mono ?_
  rintro e w3 ⟨rfl, hb⟩
  have hB := HB.out.call hb
  clear hb HB
  have HB := Lib.hid hB
  clear hB
  clear cq0 cq1 cq2 cq3
  have ks := HB.out.box (i := 0) rfl
  have cs0 := ks.cell 0
  have cs1 := ks.cell 1
  clear ks
  go_wp2_with fail
  refine (H3.out _).mono ?_
  rintro e w4 ⟨rfl, hb⟩
  have hB := HB.out.call hb
  clear hb HB
  have HB := Lib.hid hB
  clear hB
  clear cs0 cs1
  have kp := HB.out.box (i := 2) rfl
  have cp0 := kp.cell 0
  have cp1 := kp.cell 1
  have cp2 := kp.cell 2
  have cp3 := kp.cell 3
  clear kp
  have kq := HB.out.box (i := 1) rfl
  have cq0 := kq.cell 0
  have cq1 := kq.cell 1
  have cq2 := kq.cell 2
  have cq3 := kq.cell 3
  clear kq
  have ks := HB.out.box (i := 0) rfl
  have cs0 := ks.cell 0
  have cs1 := ks.cell 1
  clear ks
  go_wp2_with fail
  refine (HB1.out _).mono ?_
  rintro e w5 ⟨rfl, hb⟩
  have hB := HB.out.call hb
  have hB := hB.alloc 25 #[.int .i64 p, .int .i64 q]
  have hB := hB.alloc 25 #[.int .i64 p2, .int .i64 q2]
  clear hb HB
  have HB := Lib.hid hB
  clear hB
  clear cp0 cp1 cp2 cp3 cq0 cq1 cq2 cq3 cs0 cs1
  have HBx : Hid (SB w 3 ([(w5.heap.size + 1, 25, #[.int .i64 p2, .int .i64 q2]), (w5.heap.size, 25, #[.int .i64 p, .int .i64 q]), (w.heap.size + 1 + 1, 25, #[.int .i64 b, .int .i64 d]), (w.heap.size + 1, 23, #[.int .i64 r2, .int .i64 c2, .bool x2, .bool y2]), (w.heap.size, 23, #[.int .i64 r1, .int .i64 c1, .bool x1, .bool y1])] : List (Nat × TypeId × Array Value)) ((w5.alloc (.cells #[.int .i64 p, .int .i64 q] 25)).alloc (.cells #[.int .i64 p2, .int .i64 q2] 25))) := Lib.hid (by simpa using HB.out)
  clear HB
  have HB := HBx
  clear HBx
  have kp := HB.out.box (i := 4) rfl
  have cp0 := kp.cell 0
  have cp1 := kp.cell 1
  have cp2 := kp.cell 2
  have cp3 := kp.cell 3
  clear kp
  have kq := HB.out.box (i := 3) rfl
  have cq0 := kq.cell 0
  have cq1 := kq.cell 1
  have cq2 := kq.cell 2
  have cq3 := kq.cell 3
  clear kq
  have ks := HB.out.box (i := 2) rfl
  have cs0 := ks.cell 0
  have cs1 := ks.cell 1
  clear ks
  go_wp2_with fail
  refine (HB2.out _).mono ?_
  rintro e w6 ⟨rfl, hb⟩
  have hB := HB.out.call hb
  have hB := hB.alloc 25 #[.int .i64 p, .int .i64 q]
  have hB := hB.alloc 25 #[.int .i64 p2, .int .i64 q2]
  clear hb HB
  have HB := Lib.hid hB
  clear hB
  clear cp0 cp1 cp2 cp3 cq0 cq1 cq2 cq3 cs0 cs1
  have HBx : Hid (SB w 3 ([(w6.heap.size + 1, 25, #[.int .i64 p2, .int .i64 q2]), (w6.heap.size, 25, #[.int .i64 p, .int .i64 q]), (w5.heap.size + 1, 25, #[.int .i64 p2, .int .i64 q2]), (w5.heap.size, 25, #[.int .i64 p, .int .i64 q]), (w.heap.size + 1 + 1, 25, #[.int .i64 b, .int .i64 d]), (w.heap.size + 1, 23, #[.int .i64 r2, .int .i64 c2, .bool x2, .bool y2]), (w.heap.size, 23, #[.int .i64 r1, .int .i64 c1, .bool x1, .bool y1])] : List (Nat × TypeId × Array Value)) ((w6.alloc (.cells #[.int .i64 p, .int .i64 q] 25)).alloc (.cells #[.int .i64 p2, .int .i64 q2] 25))) := Lib.hid (by simpa using HB.out)
  clear HB
  have HB := HBx
  clear HBx
  have kp := HB.out.box (i := 6) rfl
  have cp0 := kp.cell 0
  have cp1 := kp.cell 1
  have cp2 := kp.cell 2
  have cp3 := kp.cell 3
  clear kp
  have kq := HB.out.box (i := 5) rfl
  have cq0 := kq.cell 0
  have cq1 := kq.cell 1
  have cq2 := kq.cell 2
  have cq3 := kq.cell 3
  clear kq
  have ks := HB.out.box (i := 4) rfl
  have cs0 := ks.cell 0
  have cs1 := ks.cell 1
  clear ks
  go_wp2_with fail
  refine (HCe.out _).mono ?_
  rintro e w7 ⟨⟨v, rfl, ho⟩, hb⟩
  have hB := HB.out.call hb
  clear cp0 cp1 cp2 cp3 cq0 cq1 cq2 cq3 cs0 cs1
  clear hb HB HK H1 H2 H3 HB1 HB2 HCe
  have HB := Lib.hid hB
  clear hB
  have ke := HB.out.box (i := 0) rfl
  have ce0 := ke.cell 0
  have ce1 := ke.cell 1
  clear ke
  have kf := HB.out.box (i := 1) rfl
  have cf0 := kf.cell 0
  have cf1 := kf.cell 1
  clear kf
  have kg := HB.out.box (i := 2) rfl
  have cg0 := kg.cell 0
  have cg1 := kg.cell 1
  clear kg
  have kh := HB.out.box (i := 3) rfl
  have ch0 := kh.cell 0
  have ch1 := kh.cell 1
  clear kh
  have hmw := HM.out
  obtain ⟨A0, cap, rfl, hnc, -, rd⟩ := own_form ho
  have hc' : (4096 : Int) < (n : Int) := by omega
  have hbel := HB.out.bel
  clear ho rd HB
  go_wp2
  go_ret
  exact ⟨rfl, hbel⟩

set_option maxRecDepth 20000 in
set_option maxHeartbeats 4000000 in
theorem cellsL_few {w : World} (HV : Tens w) (r1 c1 r2 c2 b d : Int) (x1 y1 x2 y2 : Bool) {p q p2 q2 : Int} {h k : Nat} (e1 : ckI r1 c1 = 0) (e2 : ckI r2 c2 = 0) (hg : gdB b d = true)
    (HB1 : Hid (∀ W : World, Calls Tryd.prog 20 #[.agg #[.int .i64 r1, .int .i64 c1, .bool x1, .bool y1, .int .i64 r2, .int .i64 c2, .bool x2, .bool y2], .agg #[.int .i64 b, .int .i64 d]] W fun e w' => e = .returned (.tuple #[.agg #[.int .i64 p, .int .i64 q], .agg #[.int .i64 p2, .int .i64 q2]]) ∧ Below W.heap.size W w'))
    (HB2 : Hid (∀ W : World, Calls Tryd.prog 20 #[.agg #[.int .i64 r2, .int .i64 c2, .bool x2, .bool y2, .int .i64 r1, .int .i64 c1, .bool x1, .bool y1], .agg #[.int .i64 b, .int .i64 d]] W fun e w' => e = .returned (.tuple #[.agg #[.int .i64 p, .int .i64 q], .agg #[.int .i64 p2, .int .i64 q2]]) ∧ Below W.heap.size W w'))
    (HCe : Hid (∀ W : World, Calls Tryd.prog 25 #[.agg #[.int .i64 r1, .int .i64 c1, .bool x1, .bool y1, .int .i64 r2, .int .i64 c2, .bool x2, .bool y2], .agg #[.int .i64 b, .int .i64 d]] W fun e w' => CellsAt 25 W.heap.size p q k (h * k) e w' ∧ Below W.heap.size W w'))
    (h0 : 0 ≤ p) (h2 : p2 < 65536) (h3 : 0 ≤ q) (h5 : q2 < 256) (hh : p2 - p + 1 = (h : Int)) (hk : q2 - q + 1 = (k : Int)) (b0 : 0 < h) (b1 : 0 < k) (hc : h * k ≤ 4096) :
    Calls Tryd.prog 7 #[.agg #[.int .i64 r1, .int .i64 c1, .bool x1, .bool y1], .agg #[.int .i64 r2, .int .i64 c2, .bool x2, .bool y2], .agg #[.int .i64 b, .int .i64 d]] w fun e w' => e = .returned (.bool true) ∧ Below w.heap.size w w' := by
  have HK : Hid (∀ W : World, Below w.heap.size w W → Calls Tryd.prog 9 #[] W fun e w' => e = .returned (.bool true) ∧ Below W.heap.size W w') := Lib.hid (fun W hb => known8_any (HV.below hb))
  have H1 : Hid (∀ W : World, Calls Tryd.prog 10 #[.agg #[.int .i64 r1, .int .i64 c1, .bool x1, .bool y1]] W fun e w' => e = .returned (.int .i64 0) ∧ Below W.heap.size W w') := Lib.hid (fun W => by
    have := check_any (w := W) r1 c1 x1 y1
    rw [e1] at this
    exact this)
  have H2 : Hid (∀ W : World, Calls Tryd.prog 10 #[.agg #[.int .i64 r2, .int .i64 c2, .bool x2, .bool y2]] W fun e w' => e = .returned (.int .i64 0) ∧ Below W.heap.size W w') := Lib.hid (fun W => by
    have := check_any (w := W) r2 c2 x2 y2
    rw [e2] at this
    exact this)
  have H3 : Hid (∀ W : World, Calls Tryd.prog 13 #[.agg #[.int .i64 b, .int .i64 d]] W fun e w' => e = .returned (.bool true) ∧ Below W.heap.size W w') := Lib.hid (fun W => by
    have := good_any (w := W) b d
    rw [hg] at this
    exact this)
  have HB : Hid (SB w 3 ([(w.heap.size + 1 + 1, 25, #[.int .i64 b, .int .i64 d]), (w.heap.size + 1, 23, #[.int .i64 r2, .int .i64 c2, .bool x2, .bool y2]), (w.heap.size, 23, #[.int .i64 r1, .int .i64 c1, .bool x1, .bool y1])] : List (Nat × TypeId × Array Value)) (((w.alloc (.cells #[.int .i64 r1, .int .i64 c1, .bool x1, .bool y1] 23)).alloc (.cells #[.int .i64 r2, .int .i64 c2, .bool x2, .bool y2] 23)).alloc (.cells #[.int .i64 b, .int .i64 d] 25))) := Lib.hid (((sb1 w 23 #[.int .i64 r1, .int .i64 c1, .bool x1, .bool y1]).push (by simp) 23 #[.int .i64 r2, .int .i64 c2, .bool x2, .bool y2]).push (by simp) 25 #[.int .i64 b, .int .i64 d])
  have hm : h * k ≤ 65536 * 256 := Nat.mul_le_mul (by omega) (by omega)
  have HM := Lib.hid (show wrap64 ((p2 - p + 1) * (q2 - q + 1)) = ((h * k : Nat) : Int) by
    rw [hh, hk, ← Int.natCast_mul]
    exact IntWalk.wrap64_in _ ⟨by omega, by omega⟩)
  have HKK := Lib.hid hk
  have l1 : p ≤ p2 := by omega
  have l2 : q ≤ q2 := by omega
  have l3 : p2 - p < 65536 := by omega
  have l4 : q2 - q < 256 := by omega
  have hk256 : k ≤ 256 := by omega
  have hnp : 0 < h * k := Nat.mul_pos b0 b1
  obtain ⟨n, hn⟩ : ∃ n, h * k = n := ⟨_, rfl⟩
  rw [hn] at hm hc HM hnp HCe
  clear hh hk hn e1 e2 hg HV
  go_enter Tryd.func7, Tryd.ntmps7
  go_wp2_with fail
  refine (HK.out _ HB.out.bel).mono ?_
  rintro e w1 ⟨rfl, hb⟩
  have hB := HB.out.call hb
  clear hb HB
  have HB := Lib.hid hB
  clear hB
  have kp := HB.out.box (i := 2) rfl
  have cp0 := kp.cell 0
  have cp1 := kp.cell 1
  have cp2 := kp.cell 2
  have cp3 := kp.cell 3
  clear kp
  go_wp2_with fail
  refine (H1.out _).mono ?_
  rintro e w2 ⟨rfl, hb⟩
  have hB := HB.out.call hb
  clear hb HB
  have HB := Lib.hid hB
  clear hB
  clear cp0 cp1 cp2 cp3
  have kq := HB.out.box (i := 1) rfl
  have cq0 := kq.cell 0
  have cq1 := kq.cell 1
  have cq2 := kq.cell 2
  have cq3 := kq.cell 3
  clear kq
  go_wp2_with fail
  refine (H2.out _).mono ?_
  rintro e w3 ⟨rfl, hb⟩
  have hB := HB.out.call hb
  clear hb HB
  have HB := Lib.hid hB
  clear hB
  clear cq0 cq1 cq2 cq3
  have ks := HB.out.box (i := 0) rfl
  have cs0 := ks.cell 0
  have cs1 := ks.cell 1
  clear ks
  go_wp2_with fail
  refine (H3.out _).mono ?_
  rintro e w4 ⟨rfl, hb⟩
  have hB := HB.out.call hb
  clear hb HB
  have HB := Lib.hid hB
  clear hB
  clear cs0 cs1
  have kp := HB.out.box (i := 2) rfl
  have cp0 := kp.cell 0
  have cp1 := kp.cell 1
  have cp2 := kp.cell 2
  have cp3 := kp.cell 3
  clear kp
  have kq := HB.out.box (i := 1) rfl
  have cq0 := kq.cell 0
  have cq1 := kq.cell 1
  have cq2 := kq.cell 2
  have cq3 := kq.cell 3
  clear kq
  have ks := HB.out.box (i := 0) rfl
  have cs0 := ks.cell 0
  have cs1 := ks.cell 1
  clear ks
  go_wp2_with fail
  refine (HB1.out _).mono ?_
  rintro e w5 ⟨rfl, hb⟩
  have hB := HB.out.call hb
  have hB := hB.alloc 25 #[.int .i64 p, .int .i64 q]
  have hB := hB.alloc 25 #[.int .i64 p2, .int .i64 q2]
  clear hb HB
  have HB := Lib.hid hB
  clear hB
  clear cp0 cp1 cp2 cp3 cq0 cq1 cq2 cq3 cs0 cs1
  have HBx : Hid (SB w 3 ([(w5.heap.size + 1, 25, #[.int .i64 p2, .int .i64 q2]), (w5.heap.size, 25, #[.int .i64 p, .int .i64 q]), (w.heap.size + 1 + 1, 25, #[.int .i64 b, .int .i64 d]), (w.heap.size + 1, 23, #[.int .i64 r2, .int .i64 c2, .bool x2, .bool y2]), (w.heap.size, 23, #[.int .i64 r1, .int .i64 c1, .bool x1, .bool y1])] : List (Nat × TypeId × Array Value)) ((w5.alloc (.cells #[.int .i64 p, .int .i64 q] 25)).alloc (.cells #[.int .i64 p2, .int .i64 q2] 25))) := Lib.hid (by simpa using HB.out)
  clear HB
  have HB := HBx
  clear HBx
  have kp := HB.out.box (i := 4) rfl
  have cp0 := kp.cell 0
  have cp1 := kp.cell 1
  have cp2 := kp.cell 2
  have cp3 := kp.cell 3
  clear kp
  have kq := HB.out.box (i := 3) rfl
  have cq0 := kq.cell 0
  have cq1 := kq.cell 1
  have cq2 := kq.cell 2
  have cq3 := kq.cell 3
  clear kq
  have ks := HB.out.box (i := 2) rfl
  have cs0 := ks.cell 0
  have cs1 := ks.cell 1
  clear ks
  go_wp2_with fail
  refine (HB2.out _).mono ?_
  rintro e w6 ⟨rfl, hb⟩
  have hB := HB.out.call hb
  have hB := hB.alloc 25 #[.int .i64 p, .int .i64 q]
  have hB := hB.alloc 25 #[.int .i64 p2, .int .i64 q2]
  clear hb HB
  have HB := Lib.hid hB
  clear hB
  clear cp0 cp1 cp2 cp3 cq0 cq1 cq2 cq3 cs0 cs1
  have HBx : Hid (SB w 3 ([(w6.heap.size + 1, 25, #[.int .i64 p2, .int .i64 q2]), (w6.heap.size, 25, #[.int .i64 p, .int .i64 q]), (w5.heap.size + 1, 25, #[.int .i64 p2, .int .i64 q2]), (w5.heap.size, 25, #[.int .i64 p, .int .i64 q]), (w.heap.size + 1 + 1, 25, #[.int .i64 b, .int .i64 d]), (w.heap.size + 1, 23, #[.int .i64 r2, .int .i64 c2, .bool x2, .bool y2]), (w.heap.size, 23, #[.int .i64 r1, .int .i64 c1, .bool x1, .bool y1])] : List (Nat × TypeId × Array Value)) ((w6.alloc (.cells #[.int .i64 p, .int .i64 q] 25)).alloc (.cells #[.int .i64 p2, .int .i64 q2] 25))) := Lib.hid (by simpa using HB.out)
  clear HB
  have HB := HBx
  clear HBx
  have kp := HB.out.box (i := 6) rfl
  have cp0 := kp.cell 0
  have cp1 := kp.cell 1
  have cp2 := kp.cell 2
  have cp3 := kp.cell 3
  clear kp
  have kq := HB.out.box (i := 5) rfl
  have cq0 := kq.cell 0
  have cq1 := kq.cell 1
  have cq2 := kq.cell 2
  have cq3 := kq.cell 3
  clear kq
  have ks := HB.out.box (i := 4) rfl
  have cs0 := ks.cell 0
  have cs1 := ks.cell 1
  clear ks
  go_wp2_with fail
  refine (HCe.out _).mono ?_
  rintro e w7 ⟨⟨v, rfl, ho⟩, hb⟩
  have hB := HB.out.call hb
  clear cp0 cp1 cp2 cp3 cq0 cq1 cq2 cq3 cs0 cs1
  clear hb HB HK H1 H2 H3 HB1 HB2 HCe
  have HB := Lib.hid hB
  clear hB
  have ke := HB.out.box (i := 0) rfl
  have ce0 := ke.cell 0
  have ce1 := ke.cell 1
  clear ke
  have kf := HB.out.box (i := 1) rfl
  have cf0 := kf.cell 0
  have cf1 := kf.cell 1
  clear kf
  have kg := HB.out.box (i := 2) rfl
  have cg0 := kg.cell 0
  have cg1 := kg.cell 1
  clear kg
  have kh := HB.out.box (i := 3) rfl
  have ch0 := kh.cell 0
  have ch1 := kh.cell 1
  clear kh
  have hwk : q2 - q + 1 = (k : Int) := HKK.out
  have hmw : wrap64 ((p2 - p + 1) * (k : Int)) = (n : Int) := by have := HM.out; rwa [hwk] at this
  obtain ⟨gg, cap, rfl, hnc, rd⟩ := own_open ho hnp
  have hc' : ¬ (4096 : Int) < (n : Int) := by omega
  have hkp : 0 < (k : Int) := by omega
  have HRD := Lib.hid rd
  clear ho rd
  go_wp2
  clear ce0 ce1 cf0 cf1 cg0 cg1 ch0 ch1 hmw hwk
  go_loopw [14] (fun i wr => ∃ j s : Nat, i = .int .i64 j ∧ j ≤ n ∧ wr = w7.drewN s) (fun i _ => n - (Go.RowKit.intOf i).toNat)
  case atStart => exact ⟨0, 0, rfl, by omega, rfl⟩
  case round =>
    obtain ⟨j, s, rfl, hj, rfl⟩ := hrel
    have hB : SB w 3 ([(w6.heap.size + 1, 25, #[.int .i64 p2, .int .i64 q2]), (w6.heap.size, 25, #[.int .i64 p, .int .i64 q]), (w5.heap.size + 1, 25, #[.int .i64 p2, .int .i64 q2]), (w5.heap.size, 25, #[.int .i64 p, .int .i64 q]), (w.heap.size + 1 + 1, 25, #[.int .i64 b, .int .i64 d]), (w.heap.size + 1, 23, #[.int .i64 r2, .int .i64 c2, .bool x2, .bool y2]), (w.heap.size, 23, #[.int .i64 r1, .int .i64 c1, .bool x1, .bool y1])] : List (Nat × TypeId × Array Value)) (w7.drewN s) := ⟨HB.out.bel.trans ((below_drewN w7 s).mono HB.out.bel.size), HB.out.size, fun x hx => HB.out.bk x hx⟩
    by_cases hjn : j < n
    · have hjn' : (j : Int) < (n : Int) := by omega
      have hc0 : w7.cell? ⟨gg, j * 2, none⟩ = some (.int .i64 (p + ((j / k : Nat) : Int))) := HRD.out _ _ (clL_get p q k n j hjn).1
      have hc1 : w7.cell? ⟨gg, j * 2 + 1, none⟩ = some (.int .i64 (q + ((j % k : Nat) : Int))) := HRD.out _ _ (clL_get p q k n j hjn).2
      have hkx := HB.out.box (i := 3) rfl
      have ch0 := hkx.cell 0
      have ch1 := hkx.cell 1
      clear hkx
      have hq0 : (j : Int).tdiv (k : Int) = ((j / k : Nat) : Int) := by rw [Int.tdiv_eq_ediv_of_nonneg (by omega)]; rfl
      have hq1 : (j : Int).tmod (k : Int) = ((j % k : Nat) : Int) := by rw [Int.tmod_eq_emod_of_nonneg (by omega)]; rfl
      have hq2 : j / k ≤ j := Nat.div_le_self _ _
      have hq3 : j % k < k := Nat.mod_lt _ b1
      obtain ⟨Q, hQ⟩ : ∃ Q, j / k = Q := ⟨_, rfl⟩
      obtain ⟨M, hM⟩ : ∃ M, j % k = M := ⟨_, rfl⟩
      rw [hQ] at hq0 hq2 hc0
      rw [hM] at hq1 hq3 hc1
      have hw0 : IntKind.i64.wrap (Q : Int) = (Q : Int) := IntWalk.i64_in _ (by omega)
      have hw1 : IntKind.i64.wrap (p + (Q : Int)) = p + (Q : Int) := IntWalk.i64_in _ (by omega)
      have hw2 : IntKind.i64.wrap (M : Int) = (M : Int) := IntWalk.i64_in _ (by omega)
      have hw3 : IntKind.i64.wrap (q + (M : Int)) = q + (M : Int) := IntWalk.i64_in _ (by omega)
      have hk0 : ((k : Int) == 0) = false := by simp; omega
      clear hQ hM hq2 hq3 hB
      go_wp2_with fail
      go_quiet (fail)
      clear hq0 hq1 hw0 hw1 hw2 hw3 hc0 hc1 hk0 ch0 ch1
      go_wp2
      go_roundw
      case rel => exact ⟨j + 1, _, by go_num, by omega, rfl⟩
      case measure => simp [Go.RowKit.intOf]; omega
    · have hjn' : ¬ (j : Int) < (n : Int) := by omega
      have hbel := hB.bel
      clear hB
      go_wp2
      go_ret
      exact ⟨rfl, hbel⟩

theorem mn_comm (a b : Int) : mnI a b = mnI b a := by unfold mnI; split <;> split <;> omega
theorem mx_comm (a b : Int) : mxI a b = mxI b a := by unfold mxI; split <;> split <;> omega
theorem refCells_any {w : World} (HV : Tens w) (r1 c1 r2 c2 b d : Int) (x1 y1 x2 y2 : Bool) :
    Calls Tryd.prog 7 #[.agg #[.int .i64 r1, .int .i64 c1, .bool x1, .bool y1], .agg #[.int .i64 r2, .int .i64 c2, .bool x2, .bool y2], .agg #[.int .i64 b, .int .i64 d]] w fun e w' => e = .returned (.bool true) ∧ Below w.heap.size w w' := by
  rcases ck_cases r1 c1 with ⟨-, e1⟩ | ⟨-, e1⟩
  · rcases ck_cases r2 c2 with ⟨-, e2⟩ | ⟨-, e2⟩
    · cases hg : gdB b d
      · exact cellsL_bad HV _ _ _ _ _ _ _ _ _ _ (.inr (.inr hg))
      · have H1 := Lib.hid (fun W : World => bounds_any (w := W) r1 c1 r2 c2 b d x1 y1 x2 y2)
        have H2 := Lib.hid (fun W : World => bounds_any (w := W) r2 c2 r1 c1 b d x2 y2 x1 y1)
        have H3 := Lib.hid (fun W : World => cells_any (w := W) r1 c1 r2 c2 b d x1 y1 x2 y2)
        have hs : boV r2 c2 r1 c1 b d x2 y2 x1 y1 = boV r1 c1 r2 c2 b d x1 y1 x2 y2 := by
          unfold boV
          rw [mn_comm (fo r2 b x2 65536), mn_comm (fo c2 d y2 256), mx_comm (fo r2 b x2 65536), mx_comm (fo c2 d y2 256)]
        rw [hs] at H2
        rw [boV_eq] at H1 H2
        obtain ⟨h0, h1, h2⟩ := r_bd r1 r2 b x1 x2
        obtain ⟨h3, h4, h5⟩ := c_bd c1 c2 d y1 y2
        clear hs
        generalize rLo r1 r2 b x1 x2 = p at *
        generalize cLo c1 c2 d y1 y2 = q at *
        generalize rHi r1 r2 b x1 x2 = p2 at *
        generalize cHi c1 c2 d y1 y2 = q2 at *
        obtain ⟨h, hh⟩ : ∃ h : Nat, p2 - p + 1 = (h : Int) := ⟨(p2 - p + 1).toNat, by omega⟩
        obtain ⟨k, hk⟩ : ∃ k : Nat, q2 - q + 1 = (k : Int) := ⟨(q2 - q + 1).toNat, by omega⟩
        have f1 : wdN q q2 = k := by unfold wdN; omega
        have f2 := cc_nat hh hk
        by_cases hc : 4096 < h * k
        · rw [f1, show ccN p q p2 q2 = 0 by unfold ccN; rw [f2, if_pos (by omega)]] at H3
          exact cellsL_big HV _ _ _ _ _ _ _ _ _ _ e1 e2 hg H1 H2 H3 h0 h2 h3 h5 hh hk (by omega) (by omega) hc
        · rw [f1, show ccN p q p2 q2 = h * k by unfold ccN; rw [f2, if_neg (by omega)]; omega] at H3
          exact cellsL_few HV _ _ _ _ _ _ _ _ _ _ e1 e2 hg H1 H2 H3 h0 h2 h3 h5 hh hk (by omega) (by omega) (by omega)
    · exact cellsL_bad HV _ _ _ _ _ _ _ _ _ _ (.inr (.inl e2))
  · exact cellsL_bad HV _ _ _ _ _ _ _ _ _ _ (.inl e1)
end Go.Proofs.YtgjijjdpkmdcgaaDoor
