/- The small calls of package sub, each by its contract: get16, put16, checkOutside, checkInside, bounds. Conditions: the bytes that are read are there. -/
import Derived.Test.YtliidkampllddaaForm
namespace Go.Proofs.Ytliidkampllddaa
open Go.RowKit

theorem get16_any {w : World} {B n c : Nat} {A : Option Addr} {l : List UInt8} (h : Rd w B 1 A n (l.map bv)) {x y : UInt8} (hx : l[0]? = some x) (hy : l[1]? = some y) (hn : 2 ≤ n) :
    Calls Try.prog 18 #[.slice A n c] w fun e w' => e = .returned (.int .i64 (le2 x y)) ∧ ∃ k, w' = w.drewN k := by
  obtain ⟨a, rfl, hb, hc⟩ := h.at_ (by omega)
  have c0 : w.cell? a = some (.int .u8 (x.toNat : Int)) := by simpa [Addr.add, bv] using hc 0 (bv x) (by simp [hx])
  have c1 : w.cell? ⟨a.block, a.off + 1, none⟩ = some (.int .u8 (y.toNat : Int)) := hc 1 (bv y) (by simp [hy])
  have bx := x.toNat_lt
  have by_ := y.toNat_lt
  have i0 : 0 < n := by omega
  have i1 : 1 < n := by omega
  have i1' : (1 : Int) < (n : Int) := by omega
  have wb := wrap_byte
  clear hc h hx hy
  go_enter Try.func18, Try.ntmps18
  go_wp2
  go_quiet (fail)
  go_wp2
  go_ret
  rw [or_le2]
  exact ⟨rfl, nq, rfl⟩

theorem put16_any {w : World} {k : Int} (hk : 0 ≤ k ∧ k < 65536) :
    Calls Try.prog 32 #[.int .i64 k] w fun e w' => e = .returned (.slice (some ⟨w.heap.size, 0, none⟩) 2 2) ∧ w' = w.alloc (.cells #[.int .u8 (k % 256), .int .u8 (k / 256)] 5) := by
  obtain ⟨h0, h1⟩ := hk
  go_enter Try.func32, Try.ntmps32
  go_wp2
  go_ret
  exact ⟨rfl, by rfl⟩

def outN (t : Int) (dn cn n : Nat) : Int := if t ≠ 2057 then 6 else if 9 ≤ n then 4 else if dn ≠ 2 ∨ 0 < cn then 2 else 0
def inN (t : Int) (dn cn : Nat) : Int := if t = 2057 then 6 else if t = 10 ∧ (0 < dn ∨ 0 < cn) then 2 else 0

theorem checkOutside_any {w : World} {t at_ : Int} {D C : Option Addr} {dn dc cn cc n : Nat} :
    Calls Try.prog 17 #[.agg #[.int .i64 t, .slice D dn dc, .slice C cn cc, .int .i64 at_], .int .i64 n] w fun e w' => e = .returned (.int .i64 (outN t dn cn n)) ∧ Below w.heap.size w w' := by
  have hbel : ∀ o, Below w.heap.size w (w.alloc o) := fun o => (Below.refl _ _).alloc (Nat.le_refl _) o
  by_cases ht : t = 2057
  · have hb : (t != 2057) = false := by simp [ht]
    by_cases h9 : 9 ≤ n
    · have h9' : (9 : Int) ≤ (n : Int) := by omega
      have HF := Lib.hid (show outN t dn cn n = 4 by simp [outN, ht, h9])
      clear ht h9
      go_enter Try.func17, Try.ntmps17
      go_wp2
      go_ret
      exact ⟨by rw [HF.out]; rfl, hbel _⟩
    · have h9' : ¬ (9 : Int) ≤ (n : Int) := by omega
      by_cases hd : dn = 2
      · have hd' : ((dn : Int) != 2) = false := by simp [hd]
        by_cases hc : 0 < cn
        · have hc' : (0 : Int) < (cn : Int) := by omega
          have HF := Lib.hid (show outN t dn cn n = 2 by simp [outN, ht, h9, hd, hc])
          clear ht h9 hd hc
          go_enter Try.func17, Try.ntmps17
          go_wp2
          go_ret
          exact ⟨by rw [HF.out]; rfl, hbel _⟩
        · have hc' : ¬ (0 : Int) < (cn : Int) := by omega
          have HF := Lib.hid (show outN t dn cn n = 0 by simp [outN, ht, h9, hd, hc])
          clear ht h9 hd hc
          go_enter Try.func17, Try.ntmps17
          go_wp2
          go_ret
          exact ⟨by rw [HF.out]; rfl, hbel _⟩
      · have hd' : ((dn : Int) != 2) = true := by rw [bne_iff_ne]; omega
        have HF := Lib.hid (show outN t dn cn n = 2 by simp [outN, ht, h9, hd])
        clear ht h9 hd
        go_enter Try.func17, Try.ntmps17
        go_wp2
        go_ret
        exact ⟨by rw [HF.out]; rfl, hbel _⟩
  · have hb : (t != 2057) = true := by simp [ht]
    have HF := Lib.hid (show outN t dn cn n = 6 by simp [outN, ht])
    clear ht
    go_enter Try.func17, Try.ntmps17
    go_wp2
    go_ret
    exact ⟨by rw [HF.out]; rfl, hbel _⟩

theorem checkInside_any {w : World} {t at_ : Int} {D C : Option Addr} {dn dc cn cc : Nat} :
    Calls Try.prog 19 #[.agg #[.int .i64 t, .slice D dn dc, .slice C cn cc, .int .i64 at_]] w fun e w' => e = .returned (.int .i64 (inN t dn cn)) ∧ Below w.heap.size w w' := by
  have hbel : ∀ o, Below w.heap.size w (w.alloc o) := fun o => (Below.refl _ _).alloc (Nat.le_refl _) o
  by_cases ht : t = 2057
  · have hb : (t == 2057) = true := by simp [ht]
    have HF := Lib.hid (show inN t dn cn = 6 by simp [inN, ht])
    clear ht
    go_enter Try.func19, Try.ntmps19
    go_wp2
    go_ret
    exact ⟨by rw [HF.out]; rfl, hbel _⟩
  · have hb : (t == 2057) = false := by simp [ht]
    by_cases h10 : t = 10
    · have hb2 : (t == 10) = true := by simp [h10]
      by_cases hd : 0 < dn
      · have hd' : (0 : Int) < (dn : Int) := by omega
        have HF := Lib.hid (show inN t dn cn = 2 by simp [inN, h10, hd])
        clear ht h10 hd
        go_enter Try.func19, Try.ntmps19
        go_wp2
        go_ret
        exact ⟨by rw [HF.out]; rfl, hbel _⟩
      · obtain rfl : dn = 0 := by omega
        by_cases hc : 0 < cn
        · have hc' : (0 : Int) < (cn : Int) := by omega
          have HF := Lib.hid (show inN t 0 cn = 2 by simp [inN, h10, hc])
          clear ht h10 hd hc
          go_enter Try.func19, Try.ntmps19
          go_wp2
          go_ret
          exact ⟨by rw [HF.out]; rfl, hbel _⟩
        · have hc' : ¬ (0 : Int) < (cn : Int) := by omega
          have HF := Lib.hid (show inN t 0 cn = 0 by simp [inN, h10, hc])
          clear ht h10 hd hc
          go_enter Try.func19, Try.ntmps19
          go_wp2
          go_ret
          exact ⟨by rw [HF.out]; rfl, hbel _⟩
    · have hb2 : (t == 10) = false := by simp [h10]
      have HF := Lib.hid (show inN t dn cn = 0 by simp [inN, ht, h10])
      clear ht h10
      go_enter Try.func19, Try.ntmps19
      go_wp2
      go_ret
      exact ⟨by rw [HF.out]; rfl, hbel _⟩

/-- Whether a type begins or ends a substream. -/
def bndB (t : Int) : Bool := decide (t = 2057 ∨ t = 10)
theorem bounds_any {w : World} {t at_ : Int} {D C : Option Addr} {dn dc cn cc : Nat} :
    Calls Try.prog 31 #[.agg #[.int .i64 t, .slice D dn dc, .slice C cn cc, .int .i64 at_]] w fun e w' => e = .returned (.bool (bndB t)) ∧ Below w.heap.size w w' := by
  have hbel : ∀ o, Below w.heap.size w (w.alloc o) := fun o => (Below.refl _ _).alloc (Nat.le_refl _) o
  by_cases ht : t = 2057
  · have hb : (t == 2057) = true := by simp [ht]
    have HF := Lib.hid (show bndB t = true by simp [bndB, ht])
    clear ht
    go_enter Try.func31, Try.ntmps31
    go_wp2
    go_ret
    exact ⟨by rw [HF.out]; rfl, hbel _⟩
  · have hb : (t == 2057) = false := by simp [ht]
    have HF := Lib.hid (show bndB t = (t == 10) by simp [bndB, ht]; rfl)
    clear ht
    go_enter Try.func31, Try.ntmps31
    go_wp2
    go_ret
    exact ⟨by rw [HF.out]; rfl, hbel _⟩
end Go.Proofs.Ytliidkampllddaa
