/- dec.Text of -0.05, as known asks it. No condition. -/
import Derived.Test.YtfkfgfajdmacbaaDoorP4
namespace Go.Proofs.YtfkfgfajdmacbaaDoor
open Go.RowKit

theorem fmt5 {w : World} : Calls Tryd.prog 52 #[.int .u64 5, .int .i64 10] w fun e w' => e = .returned (.string ⟨#[53]⟩) ∧ w' = w := by
  have HS : Hid (∀ W : World, Calls Tryd.prog 78 #[.int .i64 5] W fun e w' => e = .returned (.string ⟨#[53]⟩) ∧ w' = W) := Lib.hid (fun W => by
    have := Tryd.internal_strconv_small 5 (by decide) W
    rw [show Lib.decDigits 5 = [53] by rw [Lib.decDigits]; rfl] at this
    exact this)
  have HF : Hid (∀ W : World, Calls Tryd.prog 68 #[.int .u64 5, .int .i64 10] W fun e w' => e = .returned (.string ⟨#[53]⟩) ∧ w' = W) := Lib.hid (fun W => by
    go_enter Tryd.func68, Tryd.ntmps68
    go_wp2_with fail
    refine (HS.out _).mono ?_
    rintro e w1 ⟨rfl, rfl⟩
    go_wp2
    go_ret
    exact ⟨rfl, rfl⟩)
  go_enter Tryd.func52, Tryd.ntmps52
  go_wp2_with fail
  refine (HF.out _).mono ?_
  rintro e w1 ⟨rfl, rfl⟩
  go_wp2
  go_ret
  exact ⟨rfl, rfl⟩

theorem hp_of {w : World} {s p : ByteArray} {b : Bool} (h2 : Lib.hasPrefix s.data.toList p.data.toList = b) :
    Calls Tryd.prog 70 #[.string s, .string p] w fun e w' => e = .returned (.bool b) ∧ w' = w := by
  have := Tryd.strings_HasPrefix s p w
  rw [h2] at this
  exact this

set_option maxRecDepth 1000000 in
theorem rep2 {w : World} : Calls Tryd.prog 53 #[.string ⟨#[48]⟩, .int .i64 2] w fun e w' => e = .returned (.string ⟨#[48, 48]⟩) ∧ w' = w := by
  have HM : Hid (∀ W : World, Calls Tryd.prog 69 #[.int .u64 1, .int .u64 2] W fun e w' => e = .returned (.tuple #[.int .u64 0, .int .u64 2]) ∧ w' = W) := Lib.hid (fun W => Tryd.bits_Mul 1 2 (by decide) (by decide) W)
  have HN : Hid (∀ (W : World) (s : ByteArray), Lib.hasPrefix s.data.toList [48] = false → Calls Tryd.prog 70 #[.string s, .string ⟨#[48]⟩] W fun e w' => e = .returned (.bool false) ∧ w' = W) := Lib.hid (fun W s h => hp_of h)
  have HY : Hid (∀ (W : World) (s : ByteArray), Lib.hasPrefix s.data.toList [48] = true → Calls Tryd.prog 70 #[.string s, .string ⟨#[48]⟩] W fun e w' => e = .returned (.bool true) ∧ w' = W) := Lib.hid (fun W s h => hp_of h)
  go_enter Tryd.func53, Tryd.ntmps53
  go_wp2_with fail
  refine (HM.out _).mono ?_
  rintro e w1 ⟨rfl, rfl⟩
  go_wp2_with fail
  refine (HN.out _ _ (by decide)).mono ?_
  rintro e w1 ⟨rfl, rfl⟩
  go_wp2_with fail
  refine (HN.out _ _ (by decide)).mono ?_
  rintro e w1 ⟨rfl, rfl⟩
  go_wp2_with fail
  refine (HY.out _ _ (by decide)).mono ?_
  rintro e w1 ⟨rfl, rfl⟩
  go_wp2
  go_ret
  exact ⟨rfl, rfl⟩
end Go.Proofs.YtfkfgfajdmacbaaDoor
