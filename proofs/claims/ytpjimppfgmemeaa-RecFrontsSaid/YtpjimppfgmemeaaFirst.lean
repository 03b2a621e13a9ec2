/- rec.first by its contract. Condition: the bytes read as such. -/
import Derived.Test.YtpjimppfgmemeaaWriteAll
namespace Go.Proofs.Ytpjimppfgmemeaa
open Go.RowKit

/-- The record that bytes begin with: its type, its data, or what is wrong. -/
def firstM : List UInt8 → Int × List UInt8 × Int
  | x0 :: x1 :: x2 :: x3 :: r =>
    if 224 < le2 x2 x3 then (0, [], 4)
    else if (r.length : Int) < le2 x2 x3 then (0, [], 5)
    else (le2 x0 x1, r.take (le2 x2 x3).toNat, 0)
  | _ => (0, [], 5)

theorem firstM_short {l : List UInt8} (h : l.length < 4) : firstM l = (0, [], 5) := by
  unfold firstM
  split
  · simp only [List.length_cons] at h; omega
  · rfl

theorem four {l : List UInt8} (h : 4 ≤ l.length) : ∃ x0 x1 x2 x3 r, l = x0 :: x1 :: x2 :: x3 :: r := by
  match l, h with
  | x0 :: x1 :: x2 :: x3 :: r, _ => exact ⟨x0, x1, x2, x3, r, rfl⟩

theorem quiet_any {P : Program} {f : FuncId} {args : Array Value} {w : World} {n : Nat} {v : Value}
    (h : Calls P f args (w.drewN n) fun e w' => e = .returned v ∧ ∃ m, w' = (w.drewN n).drewN m) : Calls P f args (w.drewN n) fun e w'' => e = .returned v ∧ ∃ m, w'' = w.drewN m :=
  Calls.quiet_of h

theorem first_any {w : World} {B n c : Nat} {A : Option Addr} {l : List UInt8} (h : Rd w B 1 A n (l.map bv)) (hn : n ≤ c) (hc : n ≤ 1000000000000000000) :
    Calls Try.prog 25 #[.slice A n c] w fun e w' => ∃ A' c', e = .returned (.tuple #[.int .i64 (firstM l).1, .slice A' (firstM l).2.1.length c', .int .i64 (firstM l).2.2]) ∧
      (firstM l).2.1.length ≤ c' ∧ Rd w B 1 A' (firstM l).2.1.length ((firstM l).2.1.map bv) ∧ ∃ d, w' = w.drewN d := by
  have hl := h.blen
  by_cases h4 : n < 4
  · have h4' : (n : Int) < 4 := by omega
    have HF := Lib.hid (firstM_short (l := l) (by omega))
    clear hl h
    go_enter Try.func25, Try.ntmps25
    go_wp2
    go_ret3
    rw [HF.out]
    exact ⟨none, 0, rfl, Nat.le_refl _, Rd.nil _ _ _ _, 0, rfl⟩
  · have h4' : ¬ (n : Int) < 4 := by omega
    obtain ⟨x0, x1, x2, x3, r, rfl⟩ := four (l := l) (by omega)
    obtain ⟨a, rfl, hb, _⟩ := h.at_ (by omega)
    have hs : Rd w B 1 (some ⟨a.block, a.off + 2, none⟩) (n - 2) ((x2 :: x3 :: r).map bv) := by
      have := h.sub (i := 2) (j := n) (by omega) (by omega)
      rw [List.take_of_length_le (by simp at hl ⊢; omega)] at this
      exact this
    have q1 := fun d => get16_any (c := c) (h.drewN d) (x := x0) (y := x1) rfl rfl (by omega)
    have q2 := fun d => get16_any (c := c - 2) (hs.drewN d) (x := x2) (y := x3) rfl rfl (by omega)
    have bd := le2_bd x2 x3
    have bd1 := le2_bd x0 x1
    have hrl : r.length = n - 4 := by simp at hl; omega
    have HL := Lib.hid hrl
    have hi2 : (2 : Int) ≤ (n : Int) := by omega
    have Q1 := Lib.hid q1
    have Q2 := Lib.hid q2
    clear hl hrl q1 q2
    by_cases h224 : 224 < le2 x2 x3
    · have HF := Lib.hid (show firstM (x0 :: x1 :: x2 :: x3 :: r) = (0, [], 4) by simp [firstM, h224])
      go_enter Try.func25, Try.ntmps25
      go_wp2
      go_quiet ((go_at_call 30; first | with_reducible exact quiet_any (Q1.out _) | with_reducible exact quiet_any (Q2.out _)))
      go_wp2
      go_ret3
      rw [HF.out]
      exact ⟨none, 0, rfl, Nat.le_refl _, Rd.nil _ _ _ _, _, rfl⟩
    · have h224' : ¬ 224 < le2 x2 x3 := h224
      by_cases hsh : (r.length : Int) < le2 x2 x3
      · have HF := Lib.hid (show firstM (x0 :: x1 :: x2 :: x3 :: r) = (0, [], 5) by simp [firstM, h224, hsh])
        have hsh' : (n : Int) - 4 < le2 x2 x3 := by rw [HL.out] at hsh; omega
        clear hsh
        go_enter Try.func25, Try.ntmps25
        go_wp2
        go_quiet ((go_at_call 30; first | with_reducible exact quiet_any (Q1.out _) | with_reducible exact quiet_any (Q2.out _)))
        go_wp2
        go_ret3
        rw [HF.out]
        exact ⟨none, 0, rfl, Nat.le_refl _, Rd.nil _ _ _ _, _, rfl⟩
      · have HF := Lib.hid (show firstM (x0 :: x1 :: x2 :: x3 :: r) = (le2 x0 x1, r.take (le2 x2 x3).toNat, 0) by simp [firstM, h224, hsh])
        have hsh' : ¬ (n : Int) - 4 < le2 x2 x3 := by rw [HL.out] at hsh; omega
        obtain ⟨m, hm⟩ := Int.eq_ofNat_of_zero_le bd.1
        rw [hm] at bd h224 h224' hsh' hsh
        have HF' := Lib.hid (show firstM (x0 :: x1 :: x2 :: x3 :: r) = (le2 x0 x1, r.take m, 0) by rw [HF.out, hm, Int.toNat_natCast])
        clear HF
        have HT := Lib.hid (show (r.take m).length = m by rw [List.length_take, HL.out]; omega)
        have HM := Lib.hid hm
        have q2 := Q2.out
        rw [hm] at q2
        have Q2' := Lib.hid q2
        have hw : IntKind.i64.wrap (4 + (m : Int)) = 4 + (m : Int) := IntWalk.i64_in _ (by omega)
        have hx : (4 + (m : Int)).toNat = 4 + m := by omega
        clear hsh hm Q2 q2
        by_cases hc4 : c = 4
        · obtain rfl : m = 0 := by omega
          subst hc4
          go_enter Try.func25, Try.ntmps25
          go_wp2
          go_quiet ((go_at_call 30; first | with_reducible exact quiet_any (Q1.out _) | with_reducible exact quiet_any (Q2'.out _)))
          go_wp2
          go_quiet (fail)
          go_wp2
          go_ret3
          rw [HF'.out]
          exact ⟨_, _, rfl, Nat.zero_le _, Rd.nil _ _ _ _, _, World.drewN_drewN _ _ _⟩
        · have hs4 : Rd w B 1 (some ⟨a.block, a.off + 4, none⟩) m ((r.take m).map bv) := by
            have := h.sub (i := 4) (j := 4 + m) (by omega) (by omega)
            rw [show 4 + m - 4 = m by omega] at this
            exact this
          go_enter Try.func25, Try.ntmps25
          go_wp2
          go_quiet ((go_at_call 30; first | with_reducible exact quiet_any (Q1.out _) | with_reducible exact quiet_any (Q2'.out _)))
          go_wp2
          go_quiet (fail)
          go_wp2
          go_ret3
          rw [HF'.out]
          simp only []
          rw [HT.out]
          exact ⟨_, _, rfl, by omega, hs4, _, World.drewN_drewN _ _ _⟩
end Go.Proofs.Ytpjimppfgmemeaa
