/- cashbooklaw2.short by its contract. Condition: the records read as such. -/
import Derived.Test.YtifcdleibjnknaaForm
namespace Go.Proofs.Ytifcdleibjnknaa
open Go.RowKit

def shortR (r : RecM) : Bool := decide (r.data.length ≤ 3000) && decide (r.cuts.length ≤ 40)
def shortB (L : List RecM) : Bool := decide (L.length ≤ 60) && L.all shortR

theorem short_take {L : List RecM} {k : Nat} {r : RecM} (h : (L.take k).all shortR = true) (hr : L[k]? = some r) (hs : shortR r = true) : (L.take (k + 1)).all shortR = true := by
  rw [List.take_add_one, hr, List.all_append, h]
  simp [hs]
theorem short_not {L : List RecM} {k : Nat} {r : RecM} (hr : L[k]? = some r) (hs : shortR r = false) : shortB L = false := by
  have : L.all shortR = false := List.all_eq_false.2 ⟨r, List.mem_of_getElem? hr, by simp [hs]⟩
  simp [shortB, this]

set_option maxHeartbeats 2000000 in
theorem short_any {w : World} {B n c : Nat} {A : Option Addr} {L : List RecM} (h : RecsRd w B A n L) :
    Calls Try.prog 7 #[.slice A n c] w fun e w' => e = .returned (.bool (shortB L)) ∧ w = w' := by
  have hl := h.len
  by_cases h60 : 60 < n
  · have h60' : (60 : Int) < (n : Int) := by omega
    have HF := Lib.hid (show shortB L = false by simp [shortB]; omega)
    clear hl
    go_enter Try.func7, Try.ntmps7
    go_wp2
    go_ret
    exact ⟨by rw [HF.out]; rfl, rfl⟩
  have h60' : ¬ (60 : Int) < (n : Int) := by omega
  have Hl := Lib.hid hl
  clear hl
  go_enter Try.func7, Try.ntmps7
  go_wp2
  go_loop [3] (fun i => ∃ k : Nat, k ≤ n ∧ i = .int .i64 k ∧ Hid ((L.take k).all shortR = true)) (fun i => n - (intOf i).toNat)
  case atStart => exact ⟨0, Nat.zero_le _, rfl, Lib.hid (by simp)⟩
  case round =>
    obtain ⟨k, hk, rfl, HE⟩ := hrel
    by_cases hkn : k < n
    · obtain ⟨a, rfl, hab, hall⟩ := h.at_ (by omega)
      have hkl : k < L.length := by have := Hl.out; omega
      obtain ⟨D, dc, C, cc, hr⟩ := hall k L[k] (List.getElem?_eq_getElem hkl)
      have HG := Lib.hid (List.getElem?_eq_getElem hkl)
      clear hall
      generalize L[k] = r at *
      have c1 := hr.c1
      have c2 := hr.c2
      have hkn' : (k : Int) < (n : Int) := by omega
      by_cases hd : 3000 < r.data.length
      · have hd' : (3000 : Int) < (r.data.length : Int) := by omega
        have HF := Lib.hid (short_not HG.out (show shortR r = false by simp [shortR]; omega))
        clear hr HE
        go_wp2
        go_ret
        exact ⟨by rw [HF.out]; rfl, rfl⟩
      have hd' : ¬ (3000 : Int) < (r.data.length : Int) := by omega
      by_cases hc : 40 < r.cuts.length
      · have hc' : (40 : Int) < (r.cuts.length : Int) := by omega
        have HF := Lib.hid (short_not HG.out (show shortR r = false by simp [shortR]; omega))
        clear hr HE
        go_wp2
        go_ret
        exact ⟨by rw [HF.out]; rfl, rfl⟩
      have hc' : ¬ (40 : Int) < (r.cuts.length : Int) := by omega
      have HE2 := Lib.hid (short_take HE.out HG.out (show shortR r = true by simp [shortR]; omega))
      clear hr HE
      go_wp2
      go_round
      case rel => exact ⟨k + 1, by omega, by go_num, HE2⟩
      case measure => simp [intOf]; omega
    · have HF := Lib.hid (show shortB L = true by
        have h1 := HE.out
        have h2 := Hl.out
        rw [List.take_of_length_le (by omega)] at h1
        simp [shortB, h1]; omega)
      clear HE
      go_wp2
      go_ret
      exact ⟨by rw [HF.out]; rfl, rfl⟩
end Go.Proofs.Ytifcdleibjnknaa
