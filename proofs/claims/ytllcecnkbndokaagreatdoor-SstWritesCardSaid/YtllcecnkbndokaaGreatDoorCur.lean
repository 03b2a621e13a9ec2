/- Cursors: le.stands, le.left, le.End by their contracts. Condition: lengths as lengths are. -/
import Derived.Test.YtllcecnkbndokaaGreatDoorBytes
import Derived.RegionTactic
import Derived.BigRegion
namespace Go.Proofs.YtllcecnkbndokaaGreatDoor
open Go.RowKit

def stB (at_ : Int) (n : Nat) : Bool := decide (0 ≤ at_ ∧ at_ ≤ (n : Int))

theorem own_mono {w : World} {base base' : Nat} {e : TypeId} {k : Nat} {v : Value} {n : Nat} {xs : List Value} (h : w.ownsRow base e k v n xs) (hb : base' ≤ base) : w.ownsRow base' e k v n xs := by
  refine ⟨h.1, ?_⟩
  rcases h.2 with h2 | ⟨g, cap, cur, hv, hg, r⟩
  · exact .inl h2
  · exact .inr ⟨g, cap, cur, hv, by omega, r⟩

theorem stands_any {w : World} {n c : Nat} {at_ : Int} {A : Option Addr} :
    Calls Tryz.prog 71 #[.agg #[.slice A n c, .int .i64 at_]] w fun e w' => e = .returned (.bool (stB at_ n)) ∧ Below w.heap.size w w' := by
  have hbel : ∀ o, Below w.heap.size w (w.alloc o) := fun o => (Below.refl _ _).alloc (Nat.le_refl _) o
  by_cases h0 : 0 ≤ at_
  · by_cases h1 : at_ ≤ (n : Int)
    · have HF := Lib.hid (show stB at_ n = true by simp [stB, h0, h1])
      go_enter Tryz.func71, Tryz.ntmps71
      go_wp2
      go_ret
      exact ⟨by rw [HF.out]; rfl, hbel _⟩
    · have HF := Lib.hid (show stB at_ n = false by simp [stB, h1])
      go_enter Tryz.func71, Tryz.ntmps71
      go_wp2
      go_ret
      exact ⟨by rw [HF.out]; rfl, hbel _⟩
  · have HF := Lib.hid (show stB at_ n = false by simp [stB, h0])
    go_enter Tryz.func71, Tryz.ntmps71
    go_wp2
    go_ret
    exact ⟨by rw [HF.out]; rfl, hbel _⟩

theorem left_any {w : World} {n c : Nat} {at_ : Int} {A : Option Addr} (h0 : 0 ≤ at_) (h1 : at_ ≤ (n : Int)) (hn : n ≤ 1000000000000000000) :
    Calls Tryz.prog 72 #[.agg #[.slice A n c, .int .i64 at_]] w fun e w' => e = .returned (.int .i64 ((n : Int) - at_)) ∧ Below w.heap.size w w' := by
  have hbel : ∀ o, Below w.heap.size w (w.alloc o) := fun o => (Below.refl _ _).alloc (Nat.le_refl _) o
  go_enter Tryz.func72, Tryz.ntmps72
  go_wp2
  go_ret
  exact ⟨rfl, hbel _⟩

/-- What End tells. -/
def endE (at_ : Int) (n : Nat) : Int := if stB at_ n = false then 1 else if at_ < (n : Int) then 4 else 0

theorem bcell {W w1 : World} (hb : Below W.heap.size W w1) : (∀ b o, b < W.heap.size → w1.cell? ⟨b, o, none⟩ = W.cell? ⟨b, o, none⟩) ∧ (∀ b o, b < W.heap.size → w1.frozen? ⟨b, o, none⟩ = W.frozen? ⟨b, o, none⟩) :=
  ⟨fun b o h => hb.cell (p := ⟨b, o, none⟩) h, fun b o h => hb.frozen (p := ⟨b, o, none⟩) h⟩

theorem end_any {w : World} {n c : Nat} {at_ : Int} {A : Option Addr} (hn : n ≤ 1000000000000000000) :
    Calls Tryz.prog 54 #[.agg #[.slice A n c, .int .i64 at_]] w fun e w' => e = .returned (.int .i64 (endE at_ n)) ∧ Below w.heap.size w w' := by
  have hbel : ∀ o, Below w.heap.size w (w.alloc o) := fun o => (Below.refl _ _).alloc (Nat.le_refl _) o
  cases hst : stB at_ n
  · have HF := Lib.hid (show endE at_ n = 1 by simp [endE, hst])
    have HT := Lib.hid hst
    clear hst
    go_enter Tryz.func54, Tryz.ntmps54
    go_wp2_with fail
    refine stands_any.mono ?_
    rintro e w1 ⟨rfl, hb1⟩
    rw [HT.out]
    have hb' := (hbel _).trans (hb1.mono (by simp))
    go_wp2
    go_ret
    exact ⟨by rw [HF.out]; rfl, hb'⟩
  · have h01 : 0 ≤ at_ ∧ at_ ≤ (n : Int) := by simpa [stB] using hst
    obtain ⟨h0, h1⟩ := h01
    have HT := Lib.hid hst
    by_cases h2 : at_ < (n : Int)
    · have HF := Lib.hid (show endE at_ n = 4 by simp [endE, hst, h2])
      have h2' : 0 < (n : Int) - at_ := by omega
      clear hst
      go_enter Tryz.func54, Tryz.ntmps54
      go_wp2_with fail
      refine stands_any.mono ?_
      rintro e w1 ⟨rfl, hb1⟩
      rw [HT.out]
      have hb' := (hbel _).trans (hb1.mono (by simp))
      have k1 := (Bk.new w 99 #[.slice A n c, .int .i64 at_]).below hb1 (by simp)
      have s1 := hb'.size
      have c0 := k1.cell 0
      have c1 := k1.cell 1
      go_wp2_with fail
      refine (left_any h0 h1 hn).mono ?_
      rintro e w2 ⟨rfl, hb2⟩
      have hb2' := hb'.trans (hb2.mono s1)
      clear c0 c1
      go_wp2
      go_ret
      exact ⟨by rw [HF.out]; rfl, hb2'⟩
    · have HF := Lib.hid (show endE at_ n = 0 by simp [endE, hst, h2])
      have h2' : ¬ 0 < (n : Int) - at_ := by omega
      clear hst
      go_enter Tryz.func54, Tryz.ntmps54
      go_wp2_with fail
      refine stands_any.mono ?_
      rintro e w1 ⟨rfl, hb1⟩
      rw [HT.out]
      have hb' := (hbel _).trans (hb1.mono (by simp))
      have k1 := (Bk.new w 99 #[.slice A n c, .int .i64 at_]).below hb1 (by simp)
      have s1 := hb'.size
      have c0 := k1.cell 0
      have c1 := k1.cell 1
      go_wp2_with fail
      refine (left_any h0 h1 hn).mono ?_
      rintro e w2 ⟨rfl, hb2⟩
      have hb2' := hb'.trans (hb2.mono s1)
      clear c0 c1
      go_wp2
      go_ret
      exact ⟨by rw [HF.out]; rfl, hb2'⟩

end Go.Proofs.YtllcecnkbndokaaGreatDoor
