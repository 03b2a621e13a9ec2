/- The reference's Cells by its contract. No condition. -/
import Derived.Test.YtgjijjdpkmdcgaaDoorCl
namespace Go.Proofs.YtgjijjdpkmdcgaaDoor
open Go.RowKit

set_option maxHeartbeats 4000000 in
set_option maxRecDepth 20000 in
theorem bCells_big {w : World} (r1 c1 r2 c2 b d : Int) (x1 y1 x2 y2 : Bool) {p q p2 q2 : Int} {h k : Nat} (HB1 : Hid (∀ W : World, Calls Tryd.prog 21 #[.agg #[.int .i64 r1, .int .i64 c1, .bool x1, .bool y1, .int .i64 r2, .int .i64 c2, .bool x2, .bool y2], .agg #[.int .i64 b, .int .i64 d]] W fun e w' => e = .returned (.tuple #[.agg #[.int .i64 p, .int .i64 q], .agg #[.int .i64 p2, .int .i64 q2]]) ∧ Below W.heap.size W w'))
    (HS : Hid (∀ W : World, Calls Tryd.prog 36 #[.agg #[.int .i64 r1, .int .i64 c1, .bool x1, .bool y1, .int .i64 r2, .int .i64 c2, .bool x2, .bool y2], .agg #[.int .i64 b, .int .i64 d]] W fun e w' => e = .returned (.int .i64 ((h * k : Nat) : Int)) ∧ Below W.heap.size W w')) (h0 : 0 ≤ p) (h2 : p2 < 65536) (h3 : 0 ≤ q) (h5 : q2 < 256) (hh : p2 - p + 1 = (h : Int)) (hk : q2 - q + 1 = (k : Int)) (b0 : 0 < h) (b1 : 0 < k) (hc : 4096 < h * k) :
    Calls Tryd.prog 26 #[.agg #[.int .i64 r1, .int .i64 c1, .bool x1, .bool y1, .int .i64 r2, .int .i64 c2, .bool x2, .bool y2], .agg #[.int .i64 b, .int .i64 d]] w fun e w' => CellsAt 34 w.heap.size p q k 0 e w' ∧ Below w.heap.size w w' := by
  have HB : Hid (SB w 2 ([(w.heap.size + 1, 34, #[.int .i64 b, .int .i64 d]), (w.heap.size, 48, #[.int .i64 r1, .int .i64 c1, .bool x1, .bool y1, .int .i64 r2, .int .i64 c2, .bool x2, .bool y2])] : List (Nat × TypeId × Array Value)) ((w.alloc (.cells #[.int .i64 r1, .int .i64 c1, .bool x1, .bool y1, .int .i64 r2, .int .i64 c2, .bool x2, .bool y2] 48)).alloc (.cells #[.int .i64 b, .int .i64 d] 34))) := Lib.hid ((sb1 w 48 #[.int .i64 r1, .int .i64 c1, .bool x1, .bool y1, .int .i64 r2, .int .i64 c2, .bool x2, .bool y2]).push (by simp) 34 #[.int .i64 b, .int .i64 d])
  have hm : h * k ≤ 65536 * 256 := Nat.mul_le_mul (by omega) (by omega)
  have HH := Lib.hid hh
  have HK := Lib.hid hk
  have l1 : p ≤ p2 := by omega
  have l2 : q ≤ q2 := by omega
  have l3 : p2 - p < 65536 := by omega
  have l4 : q2 - q < 256 := by omega
  obtain ⟨n, hn⟩ : ∃ n, h * k = n := ⟨_, rfl⟩
  have HN := Lib.hid hn
  rw [hn] at hm hc HS
  skip
  clear hh hk hn
  go_enter Tryd.func26, Tryd.ntmps26
  go_wp2_with fail
  refine (HB1.out _).mono ?_
  rintro e w1 ⟨rfl, hb⟩
  have hB := ((HB.out.call hb).alloc 34 #[.int .i64 p, .int .i64 q]).alloc 34 #[.int .i64 p2, .int .i64 q2]
  have g1 := (HB.out.call hb).size
  clear hb HB
  have HB : Hid (SB w 2 ([(w1.heap.size + 1, 34, #[.int .i64 p2, .int .i64 q2]), (w1.heap.size, 34, #[.int .i64 p, .int .i64 q]), (w.heap.size + 1, 34, #[.int .i64 b, .int .i64 d]), (w.heap.size, 48, #[.int .i64 r1, .int .i64 c1, .bool x1, .bool y1, .int .i64 r2, .int .i64 c2, .bool x2, .bool y2])] : List (Nat × TypeId × Array Value)) ((w1.alloc (.cells #[.int .i64 p, .int .i64 q] 34)).alloc (.cells #[.int .i64 p2, .int .i64 q2] 34))) := Lib.hid (by simpa using hB)
  clear hB HB1
  have kb := HB.out.box (i := 2) rfl
  have cb0 := kb.cell 0
  have cb1 := kb.cell 1
  clear kb
  have kr := HB.out.box (i := 3) rfl
  have cr0 := kr.cell 0
  have cr1 := kr.cell 1
  have cr2 := kr.cell 2
  have cr3 := kr.cell 3
  have cr4 := kr.cell 4
  have cr5 := kr.cell 5
  have cr6 := kr.cell 6
  have cr7 := kr.cell 7
  clear kr
  go_wp2_with fail
  refine (HS.out _).mono ?_
  rintro e w2 ⟨rfl, hb⟩
  have hB := HB.out.call hb
  have gz : w1.heap.size + 2 ≤ w2.heap.size := by have := hb.size; simp at this; omega
  clear cb0 cb1 cr0 cr1 cr2 cr3 cr4 cr5 cr6 cr7 hb HB HS
  have HB := Lib.hid hB
  clear hB
  have ky := HB.out.box (i := 0) rfl
  have cy0 := ky.cell 0
  have cy1 := ky.cell 1
  clear ky
  have kx := HB.out.box (i := 1) rfl
  have cx0 := kx.cell 0
  have cx1 := kx.cell 1
  clear kx
  have hc' : (4096 : Int) < (n : Int) := by omega
  have hbel := HB.out.bel
  go_wp2
  go_ret
  exact ⟨⟨_, rfl, World.ownsRow_nil _ _ _ _⟩, hbel⟩

set_option maxHeartbeats 4000000 in
set_option maxRecDepth 20000 in
theorem bCells_few {w : World} (r1 c1 r2 c2 b d : Int) (x1 y1 x2 y2 : Bool) {p q p2 q2 : Int} {h k : Nat} (HB1 : Hid (∀ W : World, Calls Tryd.prog 21 #[.agg #[.int .i64 r1, .int .i64 c1, .bool x1, .bool y1, .int .i64 r2, .int .i64 c2, .bool x2, .bool y2], .agg #[.int .i64 b, .int .i64 d]] W fun e w' => e = .returned (.tuple #[.agg #[.int .i64 p, .int .i64 q], .agg #[.int .i64 p2, .int .i64 q2]]) ∧ Below W.heap.size W w'))
    (HS : Hid (∀ W : World, Calls Tryd.prog 36 #[.agg #[.int .i64 r1, .int .i64 c1, .bool x1, .bool y1, .int .i64 r2, .int .i64 c2, .bool x2, .bool y2], .agg #[.int .i64 b, .int .i64 d]] W fun e w' => e = .returned (.int .i64 ((h * k : Nat) : Int)) ∧ Below W.heap.size W w')) (h0 : 0 ≤ p) (h2 : p2 < 65536) (h3 : 0 ≤ q) (h5 : q2 < 256) (hh : p2 - p + 1 = (h : Int)) (hk : q2 - q + 1 = (k : Int)) (b0 : 0 < h) (b1 : 0 < k) (hc : h * k ≤ 4096) :
    Calls Tryd.prog 26 #[.agg #[.int .i64 r1, .int .i64 c1, .bool x1, .bool y1, .int .i64 r2, .int .i64 c2, .bool x2, .bool y2], .agg #[.int .i64 b, .int .i64 d]] w fun e w' => CellsAt 34 w.heap.size p q k (h * k) e w' ∧ Below w.heap.size w w' := by
  have HB : Hid (SB w 2 ([(w.heap.size + 1, 34, #[.int .i64 b, .int .i64 d]), (w.heap.size, 48, #[.int .i64 r1, .int .i64 c1, .bool x1, .bool y1, .int .i64 r2, .int .i64 c2, .bool x2, .bool y2])] : List (Nat × TypeId × Array Value)) ((w.alloc (.cells #[.int .i64 r1, .int .i64 c1, .bool x1, .bool y1, .int .i64 r2, .int .i64 c2, .bool x2, .bool y2] 48)).alloc (.cells #[.int .i64 b, .int .i64 d] 34))) := Lib.hid ((sb1 w 48 #[.int .i64 r1, .int .i64 c1, .bool x1, .bool y1, .int .i64 r2, .int .i64 c2, .bool x2, .bool y2]).push (by simp) 34 #[.int .i64 b, .int .i64 d])
  have hm : h * k ≤ 65536 * 256 := Nat.mul_le_mul (by omega) (by omega)
  have HH := Lib.hid hh
  have HK := Lib.hid hk
  have l1 : p ≤ p2 := by omega
  have l2 : q ≤ q2 := by omega
  have l3 : p2 - p < 65536 := by omega
  have l4 : q2 - q < 256 := by omega
  obtain ⟨n, hn⟩ : ∃ n, h * k = n := ⟨_, rfl⟩
  have HN := Lib.hid hn
  rw [hn] at hm hc HS
  rw [hn]
  clear hh hk hn
  go_enter Tryd.func26, Tryd.ntmps26
  go_wp2_with fail
  refine (HB1.out _).mono ?_
  rintro e w1 ⟨rfl, hb⟩
  have hB := ((HB.out.call hb).alloc 34 #[.int .i64 p, .int .i64 q]).alloc 34 #[.int .i64 p2, .int .i64 q2]
  have g1 := (HB.out.call hb).size
  clear hb HB
  have HB : Hid (SB w 2 ([(w1.heap.size + 1, 34, #[.int .i64 p2, .int .i64 q2]), (w1.heap.size, 34, #[.int .i64 p, .int .i64 q]), (w.heap.size + 1, 34, #[.int .i64 b, .int .i64 d]), (w.heap.size, 48, #[.int .i64 r1, .int .i64 c1, .bool x1, .bool y1, .int .i64 r2, .int .i64 c2, .bool x2, .bool y2])] : List (Nat × TypeId × Array Value)) ((w1.alloc (.cells #[.int .i64 p, .int .i64 q] 34)).alloc (.cells #[.int .i64 p2, .int .i64 q2] 34))) := Lib.hid (by simpa using hB)
  clear hB HB1
  have kb := HB.out.box (i := 2) rfl
  have cb0 := kb.cell 0
  have cb1 := kb.cell 1
  clear kb
  have kr := HB.out.box (i := 3) rfl
  have cr0 := kr.cell 0
  have cr1 := kr.cell 1
  have cr2 := kr.cell 2
  have cr3 := kr.cell 3
  have cr4 := kr.cell 4
  have cr5 := kr.cell 5
  have cr6 := kr.cell 6
  have cr7 := kr.cell 7
  clear kr
  go_wp2_with fail
  refine (HS.out _).mono ?_
  rintro e w2 ⟨rfl, hb⟩
  have hB := HB.out.call hb
  have gz : w1.heap.size + 2 ≤ w2.heap.size := by have := hb.size; simp at this; omega
  clear cb0 cb1 cr0 cr1 cr2 cr3 cr4 cr5 cr6 cr7 hb HB HS
  have HB := Lib.hid hB
  clear hB
  have ky := HB.out.box (i := 0) rfl
  have cy0 := ky.cell 0
  have cy1 := ky.cell 1
  clear ky
  have kx := HB.out.box (i := 1) rfl
  have cx0 := kx.cell 0
  have cx1 := kx.cell 1
  clear kx
  have hc' : ¬ (4096 : Int) < (n : Int) := by omega
  go_wp2
  go_loopw [7, 8] (fun s8 s9 wr => ∃ i : Nat, s9 = .int .i64 (p + i) ∧ i ≤ h ∧ wr.ownsRow (w1.heap.size + 2) 34 2 s8 (i * k) (clL p q k (i * k)) ∧ Below (w1.heap.size + 2) w2 wr) (fun _ s9 _ => (p2 + 1 - Go.RowKit.intOf s9).toNat)
  case atStart => exact ⟨0, by simp, by omega, by rw [Nat.zero_mul]; exact (World.ownsRow_nil _ _ _ _), Below.refl _ _⟩
  case round =>
    obtain ⟨i, rfl, hi, hr, hbel⟩ := hrel
    have hsz := hbel.size
    clear cx0 cx1 cy0 cy1
    have hB2 := sb_two HB.out hbel (by omega) (by omega) (by omega)
    have HB2 := Lib.hid hB2
    clear hB2
    have ky := HB2.out.box (i := 0) rfl
    have cy0 := ky.cell 0
    have cy1 := ky.cell 1
    clear ky
    have kx := HB2.out.box (i := 1) rfl
    have cx0 := kx.cell 0
    have cx1 := kx.cell 1
    clear kx
    by_cases hih : i < h
    · have t1 : p + (i : Int) ≤ p2 := by have := HH.out; omega
      generalize wr = V1 at *
      go_wp2
      go_loopw [7, 9] (fun s8 s10 wx => ∃ j : Nat, s10 = .int .i64 (q + j) ∧ j ≤ k ∧ wx.ownsRow (w1.heap.size + 2) 34 2 s8 (i * k + j) (clL p q k (i * k + j)) ∧ Below (w1.heap.size + 2) V1 wx) (fun _ s10 _ => (q2 + 1 - Go.RowKit.intOf s10).toNat)
      case atStart => exact ⟨0, by simp, by omega, hr, Below.refl _ _⟩
      case round =>
        obtain ⟨j, rfl, hj, hr2, hbel2⟩ := hrel
        have hsz2 := hbel2.size
        clear cx0 cx1 cy0 cy1 hr
        have ky : Bk wr (w1.heap.size + 1) 34 #[.int .i64 p2, .int .i64 q2] := (HB2.out.bk _ (.head _)).below hbel2 (Nat.lt_succ_self _)
        have cy1 := ky.cell 1
        by_cases hjk : j < k
        · have t2 : q + (j : Int) ≤ q2 := by have := HK.out; omega
          have hle : i * k + j < n := by
            have := HN.out
            have : (i + 1) * k ≤ h * k := Nat.mul_le_mul_right k hih
            rw [Nat.add_mul, Nat.one_mul] at this
            omega
          have HL := Lib.hid (clL_succ p q k i j hjk)
          obtain ⟨m, hmm⟩ : ∃ m, i * k + j = m := ⟨_, rfl⟩
          rw [hmm] at hr2 hle
          have HMM := Lib.hid hmm
          clear hmm
          go_wp2_with (at_builtin; refine wpList_app bCellsRow rfl (.tmp 36) (.tmp 40) rfl rfl rfl (hr2.alloc _) (Rd.fresh _ _ 2 1 _ rfl) ?_ ?_ ?_ ?_ ?_)
          · intro u hu; simp at hu; rcases hu with rfl | rfl <;> rfl
          · unfold maxLen; omega
          · omega
          · simp; omega
          intro v4 w4 o4 g4 b4
          have hb4 := hbel2.trans (((Below.refl (w1.heap.size + 2) wr).alloc (by omega) _).trans b4)
          clear g4 b4 ky cy1
          go_wp2
          go_roundw
          case rel => exact ⟨j + 1, by go_num, by omega, by rw [← Nat.add_assoc, HMM.out]; have hh := HL.out; rw [HMM.out] at hh; rw [← hh]; exact o4, hb4⟩
          case measure => simp [Go.RowKit.intOf]; omega
        · have t2 : ¬ q + (j : Int) ≤ q2 := by have := HK.out; omega
          have hjk2 : j = k := by omega
          rw [hjk2] at hr2
          have hr3 := hr2
          rw [show i * k + k = (i + 1) * k by rw [Nat.add_mul, Nat.one_mul]] at hr3
          clear hjk2 hr2
          go_wp2
          go_roundw
          case rel => exact ⟨i + 1, by go_num, by omega, hr3, hbel.trans (hbel2.mono (by omega))⟩
          case measure => simp [Go.RowKit.intOf]; omega
    · have t1 : ¬ p + (i : Int) ≤ p2 := by have := HH.out; omega
      have hih2 : i = h := by omega
      rw [hih2, HN.out] at hr
      have hbf := HB2.out.bel
      clear hih2
      go_wp2
      go_ret
      exact ⟨⟨_, rfl, own_mono hr (by omega)⟩, hbf⟩

theorem bCells_any {w : World} (r1 c1 r2 c2 b d : Int) (x1 y1 x2 y2 : Bool) :
    Calls Tryd.prog 26 #[.agg #[.int .i64 r1, .int .i64 c1, .bool x1, .bool y1, .int .i64 r2, .int .i64 c2, .bool x2, .bool y2], .agg #[.int .i64 b, .int .i64 d]] w fun e w' => CellsAt 34 w.heap.size (rLo r1 r2 b x1 x2) (cLo c1 c2 d y1 y2) (wdN (cLo c1 c2 d y1 y2) (cHi c1 c2 d y1 y2)) (ccN (rLo r1 r2 b x1 x2) (cLo c1 c2 d y1 y2) (rHi r1 r2 b x1 x2) (cHi c1 c2 d y1 y2)) e w' ∧ Below w.heap.size w w' := by
  have H1 := Lib.hid (fun W : World => bBounds_any (w := W) r1 c1 r2 c2 b d x1 y1 x2 y2)
  rw [boV_eq] at H1
  have H2 := Lib.hid (fun W : World => size_any (w := W) r1 c1 r2 c2 b d x1 y1 x2 y2)
  obtain ⟨h0, h1, h2⟩ := r_bd r1 r2 b x1 x2
  obtain ⟨h3, h4, h5⟩ := c_bd c1 c2 d y1 y2
  generalize rLo r1 r2 b x1 x2 = p at *
  generalize cLo c1 c2 d y1 y2 = q at *
  generalize rHi r1 r2 b x1 x2 = p2 at *
  generalize cHi c1 c2 d y1 y2 = q2 at *
  obtain ⟨h, hh⟩ : ∃ h : Nat, p2 - p + 1 = (h : Int) := ⟨(p2 - p + 1).toNat, by omega⟩
  obtain ⟨k, hk⟩ : ∃ k : Nat, q2 - q + 1 = (k : Int) := ⟨(q2 - q + 1).toNat, by omega⟩
  have e1 : wdN q q2 = k := by unfold wdN; omega
  have e2 := cc_nat hh hk
  rw [e2] at H2
  rw [e1]
  by_cases hc : 4096 < h * k
  · have e3 : ccN p q p2 q2 = 0 := by unfold ccN; rw [e2, if_pos (by omega)]
    rw [e3]
    exact bCells_big _ _ _ _ _ _ _ _ _ _ H1 H2 h0 h2 h3 h5 hh hk (by omega) (by omega) hc
  · have e3 : ccN p q p2 q2 = h * k := by unfold ccN; rw [e2, if_neg (by omega)]; omega
    rw [e3]
    exact bCells_few _ _ _ _ _ _ _ _ _ _ H1 H2 h0 h2 h3 h5 hh hk (by omega) (by omega) (by omega)
end Go.Proofs.YtgjijjdpkmdcgaaDoor
