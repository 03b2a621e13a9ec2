/- le.Put16, le.Put32, le.Put64 by their contracts. Condition: the bytes read as such, and are no more than a thousand. -/
import Derived.Test.YtlfnmcagpokchaaPutB
namespace Go.Proofs.Ytlfnmcagpokchaa
open Go.RowKit

/-- Whether a number fits so many bytes; what is told. -/
def putE (k : Int) (s : Nat) : Int := if 0 ≤ k ∧ k < ((256 ^ s : Nat) : Int) then 0 else 1
def putL (l : List UInt8) (k : Int) (s : Nat) : List UInt8 := if 0 ≤ k ∧ k < ((256 ^ s : Nat) : Int) then l ++ lowB k.toNat s else l

theorem put16_any {w : World} {B n c : Nat} {k : Int} {A : Option Addr} {l : List UInt8} (h : Rd w B 1 A n (l.map bv)) (hB : B ≤ w.heap.size) (hn : n ≤ 1000) :
    Calls Try.prog 18 #[.slice A n c, .int .i64 k] w fun e w' => ∃ v', e = .returned (.tuple #[v', .int .i64 (putE k 2)]) ∧ w'.ownsRow w.heap.size 5 1 v' (putL l k 2).length ((putL l k 2).map bv) ∧ Below w.heap.size w w' := by
  have hl := Lib.hid h.blen
  by_cases h0 : k < 0
  · have HF := Lib.hid (show putE k 2 = 1 ∧ putL l k 2 = l by unfold putE putL; rw [if_neg (by omega), if_neg (by omega)]; exact ⟨rfl, rfl⟩)
    go_enter Try.func18, Try.ntmps18
    go_wp2_with fail
    refine (clone_any h hB (by omega)).mono ?_
    rintro e w1 ⟨v', rfl, ho, hb⟩
    go_wp2
    go_ret2
    rw [HF.out.1, HF.out.2, hl.out]
    exact ⟨_, rfl, ho, hb⟩
  · by_cases h1 : 65535 < k
    · have HF := Lib.hid (show putE k 2 = 1 ∧ putL l k 2 = l by unfold putE putL; rw [if_neg (by omega), if_neg (by omega)]; exact ⟨rfl, rfl⟩)
      go_enter Try.func18, Try.ntmps18
      go_wp2_with fail
      refine (clone_any h hB (by omega)).mono ?_
      rintro e w1 ⟨v', rfl, ho, hb⟩
      go_wp2
      go_ret2
      rw [HF.out.1, HF.out.2, hl.out]
      exact ⟨_, rfl, ho, hb⟩
    · obtain ⟨q, rfl⟩ := Int.eq_ofNat_of_zero_le (show 0 ≤ k by omega)
      have HF := Lib.hid (show putE q 2 = 0 ∧ putL l q 2 = l ++ lowB q 2 by unfold putE putL; rw [if_pos (by omega), if_pos (by omega)]; exact ⟨rfl, by simp⟩)
      go_enter Try.func18, Try.ntmps18
      go_wp2_with fail
      refine (put_any (v := q) (s := 2) h hB hn (by omega) (by omega)).mono ?_
      rintro e w1 ⟨v', rfl, ho, hb⟩
      go_wp2
      go_ret2
      rw [HF.out.1, HF.out.2, List.length_append, lowB_len, hl.out]
      exact ⟨_, rfl, ho, hb⟩
theorem put32_any {w : World} {B n c : Nat} {k : Int} {A : Option Addr} {l : List UInt8} (h : Rd w B 1 A n (l.map bv)) (hB : B ≤ w.heap.size) (hn : n ≤ 1000) :
    Calls Try.prog 19 #[.slice A n c, .int .i64 k] w fun e w' => ∃ v', e = .returned (.tuple #[v', .int .i64 (putE k 4)]) ∧ w'.ownsRow w.heap.size 5 1 v' (putL l k 4).length ((putL l k 4).map bv) ∧ Below w.heap.size w w' := by
  have hl := Lib.hid h.blen
  by_cases h0 : k < 0
  · have HF := Lib.hid (show putE k 4 = 1 ∧ putL l k 4 = l by unfold putE putL; rw [if_neg (by omega), if_neg (by omega)]; exact ⟨rfl, rfl⟩)
    go_enter Try.func19, Try.ntmps19
    go_wp2_with fail
    refine (clone_any h hB (by omega)).mono ?_
    rintro e w1 ⟨v', rfl, ho, hb⟩
    go_wp2
    go_ret2
    rw [HF.out.1, HF.out.2, hl.out]
    exact ⟨_, rfl, ho, hb⟩
  · by_cases h1 : 4294967295 < k
    · have HF := Lib.hid (show putE k 4 = 1 ∧ putL l k 4 = l by unfold putE putL; rw [if_neg (by omega), if_neg (by omega)]; exact ⟨rfl, rfl⟩)
      go_enter Try.func19, Try.ntmps19
      go_wp2_with fail
      refine (clone_any h hB (by omega)).mono ?_
      rintro e w1 ⟨v', rfl, ho, hb⟩
      go_wp2
      go_ret2
      rw [HF.out.1, HF.out.2, hl.out]
      exact ⟨_, rfl, ho, hb⟩
    · obtain ⟨q, rfl⟩ := Int.eq_ofNat_of_zero_le (show 0 ≤ k by omega)
      have HF := Lib.hid (show putE q 4 = 0 ∧ putL l q 4 = l ++ lowB q 4 by unfold putE putL; rw [if_pos (by omega), if_pos (by omega)]; exact ⟨rfl, by simp⟩)
      go_enter Try.func19, Try.ntmps19
      go_wp2_with fail
      refine (put_any (v := q) (s := 4) h hB hn (by omega) (by omega)).mono ?_
      rintro e w1 ⟨v', rfl, ho, hb⟩
      go_wp2
      go_ret2
      rw [HF.out.1, HF.out.2, List.length_append, lowB_len, hl.out]
      exact ⟨_, rfl, ho, hb⟩

/-- The number of 64 bits that stands for k. -/
def two64 (k : Int) : Nat := (k % 18446744073709551616).toNat

theorem two64_wrap (k : Int) : IntKind.u64.wrap k = (two64 k : Int) := by
  have e : IntKind.u64.wrap k = k % 18446744073709551616 := by rw [IntKind.wrap_u64]
  have h0 := Int.emod_nonneg k (show (18446744073709551616 : Int) ≠ 0 by omega)
  rw [e, two64]
  omega
theorem two64_lt (k : Int) : two64 k < 18446744073709551616 := by
  have h1 := Int.emod_lt_of_pos k (show (0 : Int) < 18446744073709551616 by omega)
  unfold two64
  omega

theorem put64_any {w : World} {B n c : Nat} {k : Int} {A : Option Addr} {l : List UInt8} (h : Rd w B 1 A n (l.map bv)) (hB : B ≤ w.heap.size) (hn : n ≤ 1000) :
    Calls Try.prog 20 #[.slice A n c, .int .i64 k] w fun e w' => ∃ v', e = .returned v' ∧ w'.ownsRow w.heap.size 5 1 v' (n + 8) ((l ++ lowB (two64 k) 8).map bv) ∧ Below w.heap.size w w' := by
  have hw := two64_wrap k
  have hlt := two64_lt k
  generalize two64 k = v at *
  go_enter Try.func20, Try.ntmps20
  go_wp2_with fail
  refine (put_any (v := v) (s := 8) h hB hn hlt (by omega)).mono ?_
  rintro e w1 ⟨v', rfl, ho, hb⟩
  go_wp2
  go_ret
  exact ⟨_, rfl, ho, hb⟩
end Go.Proofs.Ytlfnmcagpokchaa
