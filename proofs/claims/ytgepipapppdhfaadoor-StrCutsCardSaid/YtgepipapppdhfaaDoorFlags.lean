/- str.getFlags by its contract. Condition: the bytes read as such; the Cursor stands in them. -/
import Derived.Test.YtgepipapppdhfaaDoorCutS
namespace Go.Proofs.YtgepipapppdhfaaDoor
open Go.RowKit Go.Lib

/-- The flags at a place: what they are, the place behind them, what is wrong. -/
def rdF (l : List UInt8) (at_ : Nat) : Nat × Nat × Int :=
  if at_ < l.length then (if (l.getD at_ 0).toNat ≤ 1 then ((l.getD at_ 0).toNat, at_ + 1, 0) else (0, at_, 2)) else (0, at_, 5)

def cur (A : Option Addr) (n c : Nat) (at_ : Nat) : Value := .agg #[.slice A n c, .int .i64 at_]

set_option maxHeartbeats 4000000 in
set_option maxRecDepth 100000 in
theorem getFlags_of {w : World} {n c : Nat} {A : Option Addr} {a0 a1 v : Nat} {e1 : Int} {R : Value}
    (HU : ∀ W, Below w.heap.size w W → Calls Tryd.prog 37 #[cur A n c a0] W fun e w' => e = .returned (.tuple #[.int .i64 v, cur A n c a1, .int .i64 e1]) ∧ Below W.heap.size W w')
    (hR : (e1 ≠ 0 ∧ R = .tuple #[.int .i64 v, cur A n c a1, .int .i64 e1]) ∨ (e1 = 0 ∧ v ≤ 1 ∧ R = .tuple #[.int .i64 v, cur A n c a1, .int .i64 0]) ∨ (e1 = 0 ∧ 2 ≤ v ∧ R = .tuple #[.int .i64 0, cur A n c a0, .int .i64 2])) :
    Calls Tryd.prog 27 #[cur A n c a0] w fun e w' => e = .returned R ∧ Below w.heap.size w w' := by
  unfold cur at *
  have HC := Lib.hid (HU _ (two_below w (.cells #[.slice A n c, .int .i64 a0] 30) (.cells #[.slice none 0 0, .int .i64 0] 30)))
  clear HU
  rcases hR with ⟨h0, rfl⟩ | ⟨rfl, h0, rfl⟩ | ⟨rfl, h0, rfl⟩
  · go_enter Tryd.func27, Tryd.ntmps27
    go_wp2_with fail
    refine HC.out.mono ?_
    rintro e w1 ⟨rfl, hb1⟩
    obtain ⟨k1, k2, hb', s1⟩ := two_boxes hb1
    clear HC
    have k2' := k2.alloc (.cells #[.slice A n c, .int .i64 a1] 30)
    have k3 := Bk.new w1 30 #[.slice A n c, .int .i64 a1]
    have hbW := hb'.alloc hb'.size (.cells #[.slice A n c, .int .i64 a1] 30)
    go_wp2
    generalize w1.alloc (.cells #[.slice A n c, .int .i64 a1] 30) = W at *
    have f0 := k3.cell 0
    have f1 := k3.cell 1
    have d0 := k2'.cell 0
    have d1 := k2'.cell 1
    have z0 := k2'.frozen 0
    have z1 := k2'.frozen 1
    go_region
    all_goals
      go_wp2
      exact bodyPost_ret (v := .tuple #[.int .i64 v, .agg #[.slice A n c, .int .i64 a1], .int .i64 e1]) (by simp [results, Tryd.results27, go_sem, d0, d1]) rfl ⟨rfl, ((hbW.setCell (by simp) _).setCell (by simp) _).drew⟩
  · have hv : v = 0 ∨ v = 1 := by omega
    rcases hv with rfl | rfl
    · go_enter Tryd.func27, Tryd.ntmps27
      go_wp2_with fail
      refine HC.out.mono ?_
      rintro e w1 ⟨rfl, hb1⟩
      obtain ⟨k1, k2, hb', s1⟩ := two_boxes hb1
      clear HC
      have k2' := k2.alloc (.cells #[.slice A n c, .int .i64 a1] 30)
      have k3 := Bk.new w1 30 #[.slice A n c, .int .i64 a1]
      have hbW := hb'.alloc hb'.size (.cells #[.slice A n c, .int .i64 a1] 30)
      go_wp2
      generalize w1.alloc (.cells #[.slice A n c, .int .i64 a1] 30) = W at *
      have f0 := k3.cell 0
      have f1 := k3.cell 1
      have d0 := k2'.cell 0
      have d1 := k2'.cell 1
      have z0 := k2'.frozen 0
      have z1 := k2'.frozen 1
      go_region
      all_goals
        go_wp2
        exact bodyPost_ret (v := .tuple #[.int .i64 (0 : Nat), .agg #[.slice A n c, .int .i64 a1], .int .i64 0]) (by simp [results, Tryd.results27, go_sem, d0, d1]) rfl ⟨rfl, ((hbW.setCell (by simp) _).setCell (by simp) _).drew⟩
    · go_enter Tryd.func27, Tryd.ntmps27
      go_wp2_with fail
      refine HC.out.mono ?_
      rintro e w1 ⟨rfl, hb1⟩
      obtain ⟨k1, k2, hb', s1⟩ := two_boxes hb1
      clear HC
      have k2' := k2.alloc (.cells #[.slice A n c, .int .i64 a1] 30)
      have k3 := Bk.new w1 30 #[.slice A n c, .int .i64 a1]
      have hbW := hb'.alloc hb'.size (.cells #[.slice A n c, .int .i64 a1] 30)
      go_wp2
      generalize w1.alloc (.cells #[.slice A n c, .int .i64 a1] 30) = W at *
      have f0 := k3.cell 0
      have f1 := k3.cell 1
      have d0 := k2'.cell 0
      have d1 := k2'.cell 1
      have z0 := k2'.frozen 0
      have z1 := k2'.frozen 1
      go_region
      all_goals
        go_wp2
        exact bodyPost_ret (v := .tuple #[.int .i64 (1 : Nat), .agg #[.slice A n c, .int .i64 a1], .int .i64 0]) (by simp [results, Tryd.results27, go_sem, d0, d1]) rfl ⟨rfl, ((hbW.setCell (by simp) _).setCell (by simp) _).drew⟩
  · obtain ⟨V, hV⟩ : ∃ V : Int, (v : Int) = V := ⟨_, rfl⟩
    rw [hV] at HC
    have hv0 : (V != 0) = true := by simp; omega
    have hv1 : (V != 1) = true := by simp; omega
    clear hV h0
    go_enter Tryd.func27, Tryd.ntmps27
    go_wp2_with fail
    refine HC.out.mono ?_
    rintro e w1 ⟨rfl, hb1⟩
    obtain ⟨k1, k2, hb', s1⟩ := two_boxes hb1
    clear HC
    have k1' := k1.alloc (.cells #[.slice A n c, .int .i64 a1] 30)
    have k2' := k2.alloc (.cells #[.slice A n c, .int .i64 a1] 30)
    have hbW := hb'.alloc hb'.size (.cells #[.slice A n c, .int .i64 a1] 30)
    go_wp2
    generalize w1.alloc (.cells #[.slice A n c, .int .i64 a1] 30) = W at *
    have f0 := k1'.cell 0
    have f1 := k1'.cell 1
    have d0 := k2'.cell 0
    have d1 := k2'.cell 1
    have z0 := k2'.frozen 0
    have z1 := k2'.frozen 1
    go_region
    all_goals
      go_wp2
      exact bodyPost_ret (v := .tuple #[.int .i64 0, .agg #[.slice A n c, .int .i64 a0], .int .i64 2]) (by simp [results, Tryd.results27, go_sem, d0, d1]) rfl ⟨rfl, ((hbW.setCell (by simp) _).setCell (by simp) _).drew⟩

theorem getFlags_any {w : World} {B n c at_ : Nat} {A : Option Addr} {l : List UInt8} (h : Rd w B 1 A n (l.map bv)) (hnc : n ≤ c) (hn : n ≤ 1000000000000000000) (hB : B ≤ w.heap.size) (ha : at_ ≤ n) :
    Calls Tryd.prog 27 #[cur A n c at_] w fun e w' => e = .returned (.tuple #[.int .i64 (rdF l at_).1, cur A n c (rdF l at_).2.1, .int .i64 (rdF l at_).2.2]) ∧ Below w.heap.size w w' := by
  have hl := h.blen
  by_cases h1 : at_ < n
  · obtain ⟨e1, e2, e3⟩ := u8_in hl h1
    have HU : ∀ W, Below w.heap.size w W → Calls Tryd.prog 37 #[cur A n c at_] W fun e w' => e = .returned (.tuple #[.int .i64 ((l.getD at_ 0).toNat : Nat), cur A n c (at_ + 1), .int .i64 0]) ∧ Below W.heap.size W w' := fun W hb => by
      have := u8_any (at_ := (at_ : Int)) (h.belowMono hb hB) hnc hn (Nat.le_trans hB hb.size)
      rw [e1, e2, e3] at this
      exact this
    refine getFlags_of HU ?_
    unfold rdF
    rw [if_pos (by omega)]
    by_cases h2 : (l.getD at_ 0).toNat ≤ 1
    · rw [if_pos h2]
      exact .inr (.inl ⟨rfl, h2, rfl⟩)
    · rw [if_neg h2]
      exact .inr (.inr ⟨rfl, by omega, rfl⟩)
  · obtain rfl : at_ = n := by omega
    obtain ⟨e1, e2, e3⟩ := u8_end hl
    have HU : ∀ W, Below w.heap.size w W → Calls Tryd.prog 37 #[cur A at_ c at_] W fun e w' => e = .returned (.tuple #[.int .i64 ((0 : Nat) : Int), cur A at_ c at_, .int .i64 5]) ∧ Below W.heap.size W w' := fun W hb => by
      have := u8_any (at_ := (at_ : Int)) (h.belowMono hb hB) hnc hn (Nat.le_trans hB hb.size)
      rw [e1, e2, e3] at this
      exact this
    refine getFlags_of HU ?_
    unfold rdF
    rw [if_neg (by omega)]
    exact .inl ⟨by decide, rfl⟩
end Go.Proofs.YtgepipapppdhfaaDoor
