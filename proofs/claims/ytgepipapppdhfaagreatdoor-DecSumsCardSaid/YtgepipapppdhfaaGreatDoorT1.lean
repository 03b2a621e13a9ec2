/- dec.Text of -0.05, as known asks it. No condition. -/
import Derived.Test.YtgepipapppdhfaaGreatDoorP4
namespace Go.Proofs.YtgepipapppdhfaaGreatDoor
open Go.RowKit

theorem fmt5 {w : World} : Calls Tryz.prog 54 #[.int .u64 5, .int .i64 10] w fun e w' => e = .returned (.string ⟨#[53]⟩) ∧ w' = w := by
  have HS : Hid (∀ W : World, Calls Tryz.prog 79 #[.int .i64 5] W fun e w' => e = .returned (.string ⟨#[53]⟩) ∧ w' = W) := Lib.hid (fun W => by
    have := Tryz.internal_strconv_small 5 (by decide) W
    rw [show Lib.decDigits 5 = [53] by rw [Lib.decDigits]; rfl] at this
    exact this)
  have HF : Hid (∀ W : World, Calls Tryz.prog 69 #[.int .u64 5, .int .i64 10] W fun e w' => e = .returned (.string ⟨#[53]⟩) ∧ w' = W) := Lib.hid (fun W => by
    go_enter Tryz.func69, Tryz.ntmps69
    go_wp2_with fail
    refine (HS.out _).mono ?_
    rintro e w1 ⟨rfl, rfl⟩
    go_wp2
    go_ret
    exact ⟨rfl, rfl⟩)
  go_enter Tryz.func54, Tryz.ntmps54
  go_wp2_with fail
  refine (HF.out _).mono ?_
  rintro e w1 ⟨rfl, rfl⟩
  go_wp2
  go_ret
  exact ⟨rfl, rfl⟩

theorem hp_of {w : World} {s p : ByteArray} {b : Bool} (h2 : Lib.hasPrefix s.data.toList p.data.toList = b) :
    Calls Tryz.prog 71 #[.string s, .string p] w fun e w' => e = .returned (.bool b) ∧ w' = w := by
  have := Tryz.strings_HasPrefix s p w
  rw [h2] at this
  exact this

set_option maxRecDepth 1000000 in
theorem rep2 {w : World} : Calls Tryz.prog 55 #[.string ⟨#[48]⟩, .int .i64 2] w fun e w' => e = .returned (.string ⟨#[48, 48]⟩) ∧ w' = w := by
  have HM : Hid (∀ W : World, Calls Tryz.prog 70 #[.int .u64 1, .int .u64 2] W fun e w' => e = .returned (.tuple #[.int .u64 0, .int .u64 2]) ∧ w' = W) := Lib.hid (fun W => Tryz.bits_Mul 1 2 (by decide) (by decide) W)
  have HN : Hid (∀ (W : World) (s : ByteArray), Lib.hasPrefix s.data.toList [48] = false → Calls Tryz.prog 71 #[.string s, .string ⟨#[48]⟩] W fun e w' => e = .returned (.bool false) ∧ w' = W) := Lib.hid (fun W s h => hp_of h)
  have HY : Hid (∀ (W : World) (s : ByteArray), Lib.hasPrefix s.data.toList [48] = true → Calls Tryz.prog 71 #[.string s, .string ⟨#[48]⟩] W fun e w' => e = .returned (.bool true) ∧ w' = W) := Lib.hid (fun W s h => hp_of h)
  go_enter Tryz.func55, Tryz.ntmps55
  go_wp2_with fail
  refine (HM.out _).mono ?_
  rintro e w1 ⟨rfl, rfl⟩
  go_wp2_with fail
  refine (HN.out _ _ (by decide)).mono ?_
  rintro e w1 ⟨rfl, rfl⟩
  go_wp2_with fail
  refine (HN.out _ _ (by decide)).mono ?_
  rintro e w1 ⟨rfl, rfl⟩
  go_wp2_with fail
  refine (HY.out _ _ (by decide)).mono ?_
  rintro e w1 ⟨rfl, rfl⟩
  go_wp2
  go_ret
  exact ⟨rfl, rfl⟩
end Go.Proofs.YtgepipapppdhfaaGreatDoor
