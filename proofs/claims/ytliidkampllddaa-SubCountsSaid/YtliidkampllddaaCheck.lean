/- slices.IndexFunc, slices.ContainsFunc with sub.bounds, sub.checkStream by their contracts. Condition: the records read as such. -/
import Derived.Test.YtliidkampllddaaSub
namespace Go.Proofs.Ytliidkampllddaa
open Go.RowKit

def bndR (r : RecM) : Bool := bndB r.type

/-- Where the first one stands that bounds a substream, as a number; none: -1. -/
def idxB (q : Int) (L : List RecM) : Prop := (q = -1 ∧ L.any bndR = false) ∨ (0 ≤ q ∧ L.any bndR = true)

theorem any_drop {L : List RecM} {k : Nat} (hk : (L.take k).any bndR = false) : L.any bndR = (L.drop k).any bndR := by
  conv => lhs; rw [← List.take_append_drop k L, List.any_append, hk]
  simp

set_option maxHeartbeats 1000000 in
theorem indexFunc_any {w : World} {B n c : Nat} {A : Option Addr} {L : List RecM} (h : RecsRd w B A n L) (hB : B ≤ w.heap.size) (hn : n ≤ 1000000000000000000) :
    Calls Try.prog 33 #[.slice A n c, .func (.func 31) #[] #[]] w fun e w' => ∃ q : Int, e = .returned (.int .i64 q) ∧ idxB q L ∧ Below w.heap.size w w' := by
  go_enter Try.func33, Try.ntmps33
  go_wp2
  go_loopw [5, 8] (fun _ i wr => ∃ k : Nat, k ≤ n ∧ i = .int .i64 k ∧ Below w.heap.size w wr ∧ Hid ((L.take k).any bndR = false)) (fun _ i _ => n - (intOf i).toNat)
  case atStart => exact ⟨0, Nat.zero_le _, rfl, Below.refl _ _, Lib.hid (by simp)⟩
  case round =>
    obtain ⟨k, hk, rfl, hbel, HE⟩ := hrel
    by_cases hkn : k < n
    · obtain ⟨a, rfl, hab, hall⟩ := h.at_ (by omega)
      have hkl : k < L.length := by have := h.len; omega
      obtain ⟨D, dc, C, cc, hr⟩ := hall k L[k] (List.getElem?_eq_getElem hkl)
      clear hall
      have hr' := hr.below hbel hB
      have HT : Hid (L.take (k + 1) = L.take k ++ [L[k]]) := Lib.hid (List.take_append_getElem hkl).symm
      have HD : Hid (L.drop k = L[k] :: L.drop (k + 1)) := Lib.hid (List.drop_eq_getElem_cons hkl)
      generalize L[k] = r at *
      have c0 := hr'.c0
      have c1 := hr'.c1
      have c2 := hr'.c2
      have c3 := hr'.c3
      have hkn' : (k : Int) < (n : Int) := by omega
      have hs := hbel.size
      by_cases hbd : bndB r.type = true
      · have HB := Lib.hid hbd
        go_wp2_with fail
        refine (bounds_any (t := r.type)).mono ?_
        rintro e w1 ⟨rfl, hb1⟩
        clear c0 c1 c2 c3
        go_wp2
        go_ret
        exact ⟨k, rfl, .inr ⟨by omega, by rw [any_drop HE.out, HD.out, List.any_cons, show bndR r = true from HB.out]; rfl⟩, hbel.trans (hb1.mono hs)⟩
      · have hbd' : bndB r.type = false := by simpa using hbd
        have HB := Lib.hid hbd'
        clear hbd
        go_wp2_with fail
        refine (bounds_any (t := r.type)).mono ?_
        rintro e w1 ⟨rfl, hb1⟩
        clear c0 c1 c2 c3
        have HE2 : Hid ((L.take (k + 1)).any bndR = false) := Lib.hid (by rw [HT.out, List.any_append, HE.out]; simp [bndR, HB.out])
        go_wp2
        go_roundw
        case rel => exact ⟨k + 1, by omega, by go_num, hbel.trans (hb1.mono hs), HE2⟩
        case measure => simp [intOf]; omega
    · have hl := h.len
      have HE2 : L.any bndR = false := by
        have := HE.out
        rwa [List.take_of_length_le (by omega)] at this
      have HF := Lib.hid HE2
      clear HE HE2
      go_wp2
      go_ret
      exact ⟨_, rfl, .inl ⟨rfl, HF.out⟩, hbel⟩

theorem containsFunc_any {w : World} {B n c : Nat} {A : Option Addr} {L : List RecM} (h : RecsRd w B A n L) (hB : B ≤ w.heap.size) (hn : n ≤ 1000000000000000000) :
    Calls Try.prog 30 #[.slice A n c, .func (.func 31) #[] #[]] w fun e w' => e = .returned (.bool (L.any bndR)) ∧ Below w.heap.size w w' := by
  go_enter Try.func30, Try.ntmps30
  go_wp2_with fail
  refine (indexFunc_any h hB hn).mono ?_
  rintro e w1 ⟨q, rfl, hq, hb⟩
  rcases hq with ⟨rfl, hq⟩ | ⟨h0, hq⟩
  all_goals
    have HQ := Lib.hid hq
    clear hq
    go_wp2
    go_ret
    exact ⟨by rw [HQ.out]; rfl, hb⟩

def checkS (s : StreamM) : Int := if s.kind < 0 ∨ 65535 < s.kind then 1 else if s.recs.any bndR = true then 6 else 0

theorem checkStream_any {w : World} {B n c : Nat} {A : Option Addr} {kind : Int} {L : List RecM} (h : RecsRd w B A n L) (hB : B ≤ w.heap.size) (hn : n ≤ 1000000000000000000) :
    Calls Try.prog 22 #[.agg #[.int .i64 kind, .slice A n c]] w fun e w' => e = .returned (.int .i64 (checkS ⟨kind, L⟩)) ∧ Below w.heap.size w w' := by
  have hbel : ∀ o, Below w.heap.size w (w.alloc o) := fun o => (Below.refl _ _).alloc (Nat.le_refl _) o
  by_cases h0 : kind < 0
  · have HF := Lib.hid (show checkS ⟨kind, L⟩ = 1 by simp [checkS, h0])
    go_enter Try.func22, Try.ntmps22
    go_wp2
    go_ret
    exact ⟨by rw [HF.out]; rfl, hbel _⟩
  by_cases h1 : 65535 < kind
  · have HF := Lib.hid (show checkS ⟨kind, L⟩ = 1 by simp [checkS, h1])
    go_enter Try.func22, Try.ntmps22
    go_wp2
    go_ret
    exact ⟨by rw [HF.out]; rfl, hbel _⟩
  have HF := Lib.hid (show checkS ⟨kind, L⟩ = if L.any bndR = true then 6 else 0 by simp [checkS, h0, h1])
  have hq := fun o => h.below (hbel o) hB
  go_enter Try.func22, Try.ntmps22
  go_wp2_with fail
  refine (containsFunc_any (hq _) (by simp; omega) hn).mono ?_
  rintro e w1 ⟨rfl, hb⟩
  have hb' : Below w.heap.size w w1 := (hbel _).trans (hb.mono (by simp))
  by_cases hc : L.any bndR = true
  · have HC := Lib.hid hc
    rw [hc]
    clear hc
    go_wp2
    go_ret
    exact ⟨by rw [HF.out, if_pos HC.out]; rfl, hb'⟩
  · have hc' : L.any bndR = false := by simpa using hc
    have HC := Lib.hid hc'
    rw [hc']
    clear hc hc'
    go_wp2
    go_ret
    exact ⟨by rw [HF.out, HC.out]; rfl, hb'⟩
end Go.Proofs.Ytliidkampllddaa
