/- dec: tell, Check, taken, Int by their contracts. Condition: within the bits. -/
import Derived.Test.YtmbjmgmnicacpaaDoorW4
namespace Go.Proofs.YtmbjmgmnicacpaaDoor
open Go.RowKit

/-- A decimal and an error, as a call tells them. -/
def dv (r : DR) : Value := .tuple #[.agg #[.int .i64 r.m, .int .i64 (r.s : Nat)], .int .i64 (r.e : Nat)]
theorem dv_parts (r : DR) : dv r = .tuple #[.agg #[.int .i64 r.m, .int .i64 (r.s : Nat)], .int .i64 (r.e : Nat)] := rfl

/-- What Check tells. -/
def ckE (m s : Int) : Int := if s < 0 ∨ 9 < s ∨ (0 < s ∧ m % 10 = 0) then 1 else 0
theorem tmod10 (m : Int) : m.tmod 10 = 0 ↔ m % 10 = 0 := ⟨fun h => Int.emod_eq_zero_of_dvd (Int.dvd_of_tmod_eq_zero h), fun h => Int.tmod_eq_zero_of_dvd (Int.dvd_of_emod_eq_zero h)⟩

theorem check_any {w : World} {m s : Int} :
    Calls Tryd.prog 20 #[.agg #[.int .i64 m, .int .i64 s]] w fun e w' => e = .returned (.int .i64 (ckE m s)) ∧ Below w.heap.size w w' := by
  by_cases h0 : s < 0
  · have HV := Lib.hid (show ckE m s = 1 by unfold ckE; rw [if_pos (.inl h0)])
    go_enter Tryd.func20, Tryd.ntmps20
    go_wp2
    go_ret
    exact ⟨by rw [HV.out]; rfl, bel0 _ _⟩
  · by_cases h9 : 9 < s
    · have HV := Lib.hid (show ckE m s = 1 by unfold ckE; rw [if_pos (.inr (.inl h9))])
      go_enter Tryd.func20, Tryd.ntmps20
      go_wp2
      go_ret
      exact ⟨by rw [HV.out]; rfl, bel0 _ _⟩
    · by_cases hp : 0 < s
      · by_cases hm : m % 10 = 0
        · have HV := Lib.hid (show ckE m s = 1 by unfold ckE; rw [if_pos (.inr (.inr ⟨hp, hm⟩))])
          have hm' : (m.tmod 10 == 0) = true := by simpa using (tmod10 m).2 hm
          clear hm
          go_enter Tryd.func20, Tryd.ntmps20
          go_wp2
          go_ret
          exact ⟨by rw [HV.out]; rfl, bel0 _ _⟩
        · have HV := Lib.hid (show ckE m s = 0 by unfold ckE; rw [if_neg (by omega)])
          have hm' : (m.tmod 10 == 0) = false := by simpa using fun h => hm ((tmod10 m).1 h)
          clear hm
          go_enter Tryd.func20, Tryd.ntmps20
          go_wp2
          go_ret
          exact ⟨by rw [HV.out]; rfl, bel0 _ _⟩
      · have hs : s = 0 := by omega
        subst hs
        have HV := Lib.hid (show ckE m 0 = 0 by unfold ckE; rw [if_neg (by omega)])
        clear h0 h9 hp
        go_enter Tryd.func20, Tryd.ntmps20
        go_wp2
        go_ret
        exact ⟨by rw [HV.out]; rfl, bel0 _ _⟩

theorem Gd.ck {m : Int} {s : Nat} (h : Gd m s) : ckE m s = 0 := by
  have h9 := h.s9
  have hl := h.last
  unfold ckE
  rw [if_neg (by omega)]

/-- Both stand. -/
theorem taken_any {w : World} {m n : Int} {s t : Nat} (hx : Gd m s) (hy : Gd n t) :
    Calls Tryd.prog 28 #[.agg #[.int .i64 m, .int .i64 (s : Nat)], .agg #[.int .i64 n, .int .i64 (t : Nat)]] w fun e w' => e = .returned (.bool true) ∧ Below w.heap.size w w' := by
  have H1 := Lib.hid hx.ck
  have H2 := Lib.hid hy.ck
  clear hx hy
  go_enter Tryd.func28, Tryd.ntmps28
  go_wp2_with fail
  refine check_any.mono ?_
  rintro e w1 ⟨rfl, hb⟩
  rw [H1.out]
  obtain ⟨k1, k2, hb', -⟩ := bx2 hb
  clear hb
  have c20 := k2.cell 0
  have c21 := k2.cell 1
  have hsz := hb'.size
  clear k1 k2
  go_wp2_with fail
  refine check_any.mono ?_
  rintro e w2 ⟨rfl, hb⟩
  rw [H2.out]
  have hb2 := hb'.trans (hb.mono hsz)
  clear c20 c21 hb
  go_wp2
  go_ret
  exact ⟨rfl, hb2⟩

theorem int_any {w : World} {n : Int} :
    Calls Tryd.prog 11 #[.int .i64 n] w fun e w' => e = .returned (.agg #[.int .i64 n, .int .i64 0]) ∧ Below w.heap.size w w' := by
  go_enter Tryd.func11, Tryd.ntmps11
  go_wp2
  exact bodyPost_ret (v := .agg #[.int .i64 n, .int .i64 0]) (by simp [results, Tryd.results11, go_sem]) rfl ⟨rfl, bel0 _ _⟩
end Go.Proofs.YtmbjmgmnicacpaaDoor
