/- The reference's Norm by its contract. Condition: numbers within 64 bits, at most nine places. -/
import Derived.Test.YtfkfgfajdmacbaaDoorRow2
import Derived.Test.YtfkfgfajdmacbaaDoorFit
namespace Go.Proofs.YtfkfgfajdmacbaaDoor
open Go.RowKit

theorem tl_ten (q : Int) (s : Nat) : tl (q * 10) (s + 1) = tl q s := by
  have := tl_up q s 1
  simpa using this
theorem tl_stop {m : Int} {s : Nat} (h0 : -9223372036854775808 ≤ m) (h1 : m ≤ 9223372036854775807) (h : s = 0 ∨ m % 10 ≠ 0) : tl m s = ⟨m, s, 0⟩ := by
  have e : strip s m.natAbs = (m.natAbs, s) := by
    cases s with
    | zero => rfl
    | succ s => rw [strip, if_neg (by omega)]
  unfold tl tlb
  rw [e]
  simp only
  rw [if_pos (by unfold most; split <;> simp_all <;> omega), sgn_natAbs]
def boxInt (w : World) (g i : Nat) : Nat := match w.cell? ⟨g, i, none⟩ with
  | some v => (intOf v).toNat
  | none => 0
theorem boxInt_bk {w : World} {g s : Nat} {T : TypeId} {x : Value} (h : Bk w g T #[x, .int .i64 (s : Nat)]) : boxInt w g 1 = s := by
  unfold boxInt
  rw [h.cell 1]
  simp [intOf]
theorem tmod10r (m : Int) : m.tmod 10 = 0 ↔ m % 10 = 0 := ⟨fun h => Int.emod_eq_zero_of_dvd (Int.dvd_of_tmod_eq_zero h), fun h => Int.tmod_eq_zero_of_dvd (Int.dvd_of_emod_eq_zero h)⟩

set_option maxHeartbeats 1000000 in
theorem bNorm_any {w : World} {m : Int} {s : Nat} (h0 : -9223372036854775808 ≤ m) (h1 : m ≤ 9223372036854775807) (hs : s ≤ 9) :
    Calls Tryd.prog 11 #[.agg #[.int .i64 m, .int .i64 (s : Nat)]] w fun e w' => e = .returned (.agg #[.int .i64 (tl m s).m, .int .i64 ((tl m s).s : Nat)]) ∧ Below w.heap.size w w' := by
  have k0 := (Bk.new w 25 #[.int .i64 m, .int .i64 (s : Nat)]).alloc (.cells #[.int .i64 0, .int .i64 0] 25)
  have k1 := Bk.new (w.alloc (.cells #[.int .i64 m, .int .i64 (s : Nat)] 25)) 25 #[.int .i64 0, .int .i64 0]
  simp only [World.size_alloc] at k1
  have hb0 := bel1 w (.cells #[.int .i64 m, .int .i64 (s : Nat)] 25) (.cells #[.int .i64 0, .int .i64 0] 25)
  go_enter Tryd.func11, Tryd.ntmps11
  go_wp2
  go_loopw [] (fun wr => ∃ (m' : Int) (s' : Nat), Bk wr w.heap.size 25 #[.int .i64 m', .int .i64 (s' : Nat)] ∧ Bk wr (w.heap.size + 1) 25 #[.int .i64 0, .int .i64 0] ∧ Below w.heap.size w wr ∧ s' ≤ 9 ∧ Hid (tl m' s' = tl m s) ∧ Hid (-9223372036854775808 ≤ m' ∧ m' ≤ 9223372036854775807)) (fun wr => boxInt wr w.heap.size 1)
  case atStart => exact ⟨m, s, k0, k1, hb0, hs, Lib.hid rfl, Lib.hid ⟨h0, h1⟩⟩
  case round =>
    clear k0 k1 hb0
    obtain ⟨m', s', k0, k1, hbel, hs', HT, HM⟩ := hrel
    have hsz := hbel.size
    have c0 := k0.cell 0
    have c1 := k0.cell 1
    have z0 := k0.frozen 0
    have z1 := k0.frozen 1
    have r0 := k1.cell 0
    have r1 := k1.cell 1
    have y0 := k1.frozen 0
    have y1 := k1.frozen 1
    cases s' with
    | zero =>
      have HE := Lib.hid (tl_stop HM.out.1 HM.out.2 (.inl rfl))
      go_wp2
      refine bodyPost_ret (v := .agg #[.int .i64 m', .int .i64 0]) (by simp [results, Tryd.results11, go_sem, r0, r1]) rfl ⟨?_, (hbel.setCell (by simp) _).setCell (by simp) _⟩
      rw [← HT.out, HE.out]
      rfl
    | succ s' =>
      by_cases hd : m' % 10 = 0
      · obtain ⟨q, rfl⟩ : ∃ q, m' = q * 10 := ⟨m' / 10, by omega⟩
        have HQ := Lib.hid (show -9223372036854775808 ≤ q ∧ q ≤ 9223372036854775807 by have := HM.out; omega)
        have hq : wrap64 q = q := IntWalk.wrap64_in _ ⟨HQ.out.1, HQ.out.2⟩
        have HT2 := Lib.hid ((tl_ten q s').symm.trans HT.out)
        have hms := boxInt_bk k0
        have k02 : Bk ((wr.setCell ⟨w.heap.size, 0, none⟩ (.int .i64 q)).setCell ⟨w.heap.size, 1, none⟩ (.int .i64 (s' : Nat))) w.heap.size 25 #[.int .i64 q, .int .i64 (s' : Nat)] := by
          simpa using (k0.set_ 0 (.int .i64 q)).set_ 1 (.int .i64 (s' : Nat))
        have hms2 := boxInt_bk k02
        clear hd
        go_wp2
        go_roundw
        case rel =>
          clear hq
          exact ⟨q, s', k02, (k1.other (by omega)).other (by omega), (hbel.setCell (by simp) _).setCell (by simp) _, by omega, HT2, HQ⟩
        case measure =>
          rw [hms, hms2]
          clear hq
          omega
      · have hm' : (m'.tmod 10 == 0) = false := by simpa using fun h => hd ((tmod10r m').1 h)
        have HE := Lib.hid (tl_stop (s := s' + 1) HM.out.1 HM.out.2 (.inr hd))
        clear hd
        go_wp2
        refine bodyPost_ret (v := .agg #[.int .i64 m', .int .i64 ((s' + 1 : Nat) : Int)]) (by simp [results, Tryd.results11, go_sem, r0, r1]) rfl ⟨?_, (hbel.setCell (by simp) _).setCell (by simp) _⟩
        rw [← HT.out, HE.out]
end Go.Proofs.YtfkfgfajdmacbaaDoor
