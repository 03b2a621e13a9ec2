/- What LeWrites calls, each by a contract of its own. Condition: the bytes read as such, and are no more than 200. -/
import Derived.Test.YtlfnmcagpokchaaKnown3
import Derived.Test.YtlfnmcagpokchaaBytesLaw
import Derived.Test.YtlfnmcagpokchaaPuts
import Derived.Test.YtlfnmcagpokchaaLit
import Derived.Test.YtlfnmcagpokchaaPhase
namespace Go.Proofs.Ytlfnmcagpokchaa
open Go.RowKit

section
variable {w : World} {B n c : Nat} {A : Option Addr} {l : List UInt8}
def PutsOk (w : World) (n : Nat) (L : List UInt8) (e : Ending) (w' : World) : Prop := ∃ A c, e = .returned (.tuple #[.slice A n c, .int .i64 0]) ∧ n ≤ c ∧ Rd w' w'.heap.size 1 A n (L.map bv) ∧ Below w.heap.size w w'
def PutsNo (w : World) (n : Nat) (L : List UInt8) (e : Ending) (w' : World) : Prop := ∃ A c, e = .returned (.tuple #[.slice A n c, .int .i64 1]) ∧ n ≤ c ∧ Rd w' w'.heap.size 1 A n (L.map bv) ∧ Below w.heap.size w w'
def PutsRow (w : World) (n : Nat) (L : List UInt8) (e : Ending) (w' : World) : Prop := ∃ A c, e = .returned (.slice A n c) ∧ n ≤ c ∧ Rd w' w'.heap.size 1 A n (L.map bv) ∧ Below w.heap.size w w'

theorem put_fit {k : Int} {s : Nat} (h0 : 0 ≤ k) (h1 : k < ((256 ^ s : Nat) : Int)) : putE k s = 0 ∧ putL l k s = l ++ lowB k.toNat s := by
  unfold putE putL
  rw [if_pos ⟨h0, h1⟩, if_pos ⟨h0, h1⟩]
  exact ⟨rfl, rfl⟩
theorem put_not {k : Int} {s : Nat} (h : ¬ (0 ≤ k ∧ k < ((256 ^ s : Nat) : Int))) : putE k s = 1 ∧ putL l k s = l := by
  unfold putE putL
  rw [if_neg h, if_neg h]
  exact ⟨rfl, rfl⟩

theorem put16_ok {q : Nat} (h : Rd w B 1 A n (l.map bv)) (hB : B ≤ w.heap.size) (hn : n ≤ 1000) (hq : q < 65536) :
    Calls Try.prog 18 #[.slice A n c, .int .i64 q] w (PutsOk w (n + 2) (l ++ lowB q 2)) := by
  have hl := h.blen
  obtain ⟨e1, e2⟩ := put_fit (l := l) (k := q) (s := 2) (by omega) (by omega)
  refine (put16_any (k := q) h hB hn).mono ?_
  rintro e w' ⟨v', rfl, ho, hb⟩
  rw [e2, Int.toNat_natCast] at ho
  obtain ⟨A', c', rfl, hc, -, hr⟩ := own_open ho
  rw [List.length_append, lowB_len, hl] at hr hc ⊢
  exact ⟨A', c', by rw [e1], hc, hr, hb⟩
theorem put16_no {k : Int} (h : Rd w B 1 A n (l.map bv)) (hB : B ≤ w.heap.size) (hn : n ≤ 1000) (hk : ¬ (0 ≤ k ∧ k < 65536)) :
    Calls Try.prog 18 #[.slice A n c, .int .i64 k] w (PutsNo w n l) := by
  have hl := h.blen
  obtain ⟨e1, e2⟩ := put_not (l := l) (k := k) (s := 2) (by omega)
  refine (put16_any (k := k) h hB hn).mono ?_
  rintro e w' ⟨v', rfl, ho, hb⟩
  rw [e2] at ho
  obtain ⟨A', c', rfl, hc, -, hr⟩ := own_open ho
  rw [hl] at hr hc ⊢
  exact ⟨A', c', by rw [e1], hc, hr, hb⟩
theorem put32_ok {q : Nat} (h : Rd w B 1 A n (l.map bv)) (hB : B ≤ w.heap.size) (hn : n ≤ 1000) (hq : q < 4294967296) :
    Calls Try.prog 19 #[.slice A n c, .int .i64 q] w (PutsOk w (n + 4) (l ++ lowB q 4)) := by
  have hl := h.blen
  obtain ⟨e1, e2⟩ := put_fit (l := l) (k := q) (s := 4) (by omega) (by omega)
  refine (put32_any (k := q) h hB hn).mono ?_
  rintro e w' ⟨v', rfl, ho, hb⟩
  rw [e2, Int.toNat_natCast] at ho
  obtain ⟨A', c', rfl, hc, -, hr⟩ := own_open ho
  rw [List.length_append, lowB_len, hl] at hr hc ⊢
  exact ⟨A', c', by rw [e1], hc, hr, hb⟩
theorem put32_no {k : Int} (h : Rd w B 1 A n (l.map bv)) (hB : B ≤ w.heap.size) (hn : n ≤ 1000) (hk : ¬ (0 ≤ k ∧ k < 4294967296)) :
    Calls Try.prog 19 #[.slice A n c, .int .i64 k] w (PutsNo w n l) := by
  have hl := h.blen
  obtain ⟨e1, e2⟩ := put_not (l := l) (k := k) (s := 4) (by omega)
  refine (put32_any (k := k) h hB hn).mono ?_
  rintro e w' ⟨v', rfl, ho, hb⟩
  rw [e2] at ho
  obtain ⟨A', c', rfl, hc, -, hr⟩ := own_open ho
  rw [hl] at hr hc ⊢
  exact ⟨A', c', by rw [e1], hc, hr, hb⟩
theorem put64_ok {k : Int} (h : Rd w B 1 A n (l.map bv)) (hB : B ≤ w.heap.size) (hn : n ≤ 1000) :
    Calls Try.prog 20 #[.slice A n c, .int .i64 k] w (PutsRow w (n + 8) (l ++ lowB (two64 k) 8)) := by
  refine (put64_any (k := k) h hB hn).mono ?_
  rintro e w' ⟨v', rfl, ho, hb⟩
  obtain ⟨A', c', rfl, hc, -, hr⟩ := own_open ho
  exact ⟨A', c', rfl, hc, hr, hb⟩
theorem putLow_ok {v s : Nat} (h : Rd w B 1 A n (l.map bv)) (hB : B ≤ w.heap.size) (hn : n ≤ 1000) (hs : s ≤ 8) :
    Calls Try.prog 21 #[.slice A n c, .int .u64 v, .int .i64 s] w (PutsRow w (n + s) (l ++ lowB v s)) := by
  refine (putLow_any (v := v) h hB hn hs).mono ?_
  rintro e w' ⟨v', rfl, ho, hb⟩
  obtain ⟨A', c', rfl, hc, -, hr⟩ := own_open ho
  exact ⟨A', c', rfl, hc, hr, hb⟩

theorem tail_num {v s : Nat} (hl : l.length = n) : tkE n s (n + s) = 0 ∧ tkAt n s (n + s) = ((n + s : Nat) : Int) ∧ tkL (l ++ lowB v s) n s = lowB v s := by
  obtain ⟨e1, e2⟩ := tk_fit (at_ := n) (k := s) (n := n + s) (by omega) (by omega) (by omega)
  refine ⟨e1, by rw [e2]; omega, ?_⟩
  rw [tkL_fit (by omega) (by omega) (by rw [List.length_append, lowB_len]; omega), Int.toNat_natCast, Int.toNat_natCast, ← hl, List.drop_left]
  exact List.take_of_length_le (by rw [lowB_len]; exact Nat.le_refl _)

theorem back16 {q : Nat} (h : Rd w B 1 A (n + 2) ((l ++ lowB q 2).map bv)) (hnc : n + 2 ≤ c) (hn : n ≤ 1000) (hB : B ≤ w.heap.size) (hl : l.length = n) (hq : q < 65536) :
    Calls Try.prog 10 #[.agg #[.slice A (n + 2) c, .int .i64 n]] w fun e w' => e = .returned (.tuple #[.int .i64 q, .agg #[.slice A (n + 2) c, .int .i64 ((n : Int) + 2)], .int .i64 0]) ∧ Below w.heap.size w w' := by
  have H := u16_any (at_ := n) h hnc (by omega) hB
  obtain ⟨e1, e2, e3⟩ := tail_num (v := q) (s := 2) hl
  have e4 : numN (tkL (l ++ lowB q 2) n (2 : Int)) = q := (congrArg numN e3).trans ((numN_lowB q 2).trans (Nat.mod_eq_of_lt (by omega)))
  rw [e4, show tkAt n (2 : Int) (n + 2) = (n : Int) + 2 from e2.trans (by omega), show tkE n (2 : Int) (n + 2) = 0 from e1] at H
  exact H
theorem back32 {q : Nat} (h : Rd w B 1 A (n + 4) ((l ++ lowB q 4).map bv)) (hnc : n + 4 ≤ c) (hn : n ≤ 1000) (hB : B ≤ w.heap.size) (hl : l.length = n) (hq : q < 4294967296) :
    Calls Try.prog 11 #[.agg #[.slice A (n + 4) c, .int .i64 n]] w fun e w' => e = .returned (.tuple #[.int .i64 q, .agg #[.slice A (n + 4) c, .int .i64 ((n : Int) + 4)], .int .i64 0]) ∧ Below w.heap.size w w' := by
  have H := u32_any (at_ := n) h hnc (by omega) hB
  obtain ⟨e1, e2, e3⟩ := tail_num (v := q) (s := 4) hl
  have e4 : numN (tkL (l ++ lowB q 4) n (4 : Int)) = q := (congrArg numN e3).trans ((numN_lowB q 4).trans (Nat.mod_eq_of_lt (by omega)))
  rw [e4, show tkAt n (4 : Int) (n + 4) = (n : Int) + 4 from e2.trans (by omega), show tkE n (4 : Int) (n + 4) = 0 from e1] at H
  exact H
theorem two64_back {k : Int} (h0 : -9223372036854775808 ≤ k) (h1 : k ≤ 9223372036854775807) : IntKind.i64.wrap ((two64 k : Nat) : Int) = k := by
  have h2 := Int.emod_nonneg k (show (18446744073709551616 : Int) ≠ 0 by omega)
  unfold two64
  rw [Int.toNat_of_nonneg h2, IntKind.wrap_i64]
  omega
theorem back64 {k : Int} (h : Rd w B 1 A (n + 8) ((l ++ lowB (two64 k) 8).map bv)) (hnc : n + 8 ≤ c) (hn : n ≤ 1000) (hB : B ≤ w.heap.size) (hl : l.length = n) (h0 : -9223372036854775808 ≤ k) (h1 : k ≤ 9223372036854775807) :
    Calls Try.prog 12 #[.agg #[.slice A (n + 8) c, .int .i64 n]] w fun e w' => e = .returned (.tuple #[.int .i64 k, .agg #[.slice A (n + 8) c, .int .i64 ((n : Int) + 8)], .int .i64 0]) ∧ Below w.heap.size w w' := by
  have H := i64_any (at_ := n) h hnc (by omega) hB
  obtain ⟨e1, e2, e3⟩ := tail_num (v := two64 k) (s := 8) hl
  have e4 : numN (tkL (l ++ lowB (two64 k) 8) n (8 : Int)) = two64 k := (congrArg numN e3).trans ((numN_lowB _ 8).trans (Nat.mod_eq_of_lt (two64_lt k)))
  rw [e4, two64_back h0 h1, show tkAt n (8 : Int) (n + 8) = (n : Int) + 8 from e2.trans (by omega), show tkE n (8 : Int) (n + 8) = 0 from e1] at H
  exact H
theorem end_ok {m : Nat} {z : Int} (hm : m ≤ 10000) (hz : z = m) : Calls Try.prog 15 #[.agg #[.slice A m c, .int .i64 z]] w fun e w' => e = .returned (.int .i64 0) ∧ Below w.heap.size w w' := by
  subst hz
  have H := end_any (w := w) (A := A) (n := m) (c := c) (at_ := m) (by omega)
  have e1 : endE m m = 0 := by
    unfold endE
    rw [if_neg (by simp [stB]), if_neg (by omega)]
  rwa [e1] at H
end
end Go.Proofs.Ytlfnmcagpokchaa
