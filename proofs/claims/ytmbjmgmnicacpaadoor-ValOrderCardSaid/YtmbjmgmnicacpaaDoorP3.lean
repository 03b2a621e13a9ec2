/- strings.Cut at a point, the texts that known parses, one by one. Condition: none but what is said. -/
import Derived.Test.YtmbjmgmnicacpaaDoorP2
import Derived.Test.YtmbjmgmnicacpaaDoorD1
namespace Go.Proofs.YtmbjmgmnicacpaaDoor
open Go.RowKit

theorem cp_of {w : World} {s p : ByteArray} {r : List UInt8} {b : Bool} (h1 : Lib.trimPrefix s.data.toList p.data.toList = r) (h2 : Lib.hasPrefix s.data.toList p.data.toList = b) :
    Calls Tryd.prog 47 #[.string s, .string p] w fun e w' => e = .returned (.tuple #[.string ⟨r.toArray⟩, .bool b]) ∧ w' = w := by
  have := Tryd.strings_CutPrefix s p w
  rw [h1, h2] at this
  exact this
theorem hs_of {w : World} {s p : ByteArray} {b : Bool} (hs : s.size ≤ 9223372036854775807) (h2 : Lib.hasSuffix s.data.toList p.data.toList = b) :
    Calls Tryd.prog 53 #[.string s, .string p] w fun e w' => e = .returned (.bool b) ∧ w' = w := by
  have := Tryd.strings_HasSuffix s p w hs
  rw [h2] at this
  exact this
theorem cut0_no {w : World} {s : ByteArray} (h : Lib.indexByte s.data.toList 46 = -1) :
    Calls Tryd.prog 60 #[.string s, .string ⟨#[46]⟩] w fun e w' => e = .returned (.tuple #[.string s, .string ⟨#[]⟩, .bool false]) ∧ Below w.heap.size w w' := by
  have HI : Hid (∀ W : World, Calls Tryd.prog 71 #[.string s, .string ⟨#[46]⟩] W fun e w' => e = .returned (.int .i64 (-1)) ∧ w' = W) := Lib.hid (fun W => by
    have := Tryd.stringslite_Index_one s 46 W
    rw [h] at this
    exact this)
  clear h
  go_enter Tryd.func60, Tryd.ntmps60
  go_wp2_with fail
  refine (HI.out _).mono ?_
  rintro e w1 ⟨rfl, rfl⟩
  go_wp2
  go_ret3
  exact ⟨rfl, Below.refl _ _⟩
theorem cut0_yes {w : World} {s : ByteArray} {i : Nat} (h : Lib.indexByte s.data.toList 46 = i) (hi : i < s.size) (hs : s.size ≤ 1000000000000) :
    Calls Tryd.prog 60 #[.string s, .string ⟨#[46]⟩] w fun e w' => e = .returned (.tuple #[.string (s.extract 0 i), .string (s.extract (i + 1) s.size), .bool true]) ∧ Below w.heap.size w w' := by
  have HI : Hid (∀ W : World, Calls Tryd.prog 71 #[.string s, .string ⟨#[46]⟩] W fun e w' => e = .returned (.int .i64 (i : Int)) ∧ w' = W) := Lib.hid (fun W => by
    have := Tryd.stringslite_Index_one s 46 W
    rw [h] at this
    exact this)
  have hi' : (i : Int) + 1 ≤ (s.size : Int) := by omega
  have hw : IntKind.i64.wrap ((i : Int) + 1) = (i : Int) + 1 := IntWalk.i64_in _ (by omega)
  have h0 : 0 ≤ (i : Int) + 1 := by omega
  have ht : ((i : Int) + 1).toNat = i + 1 := by omega
  have hle : i ≤ s.size := by omega
  have hle1 : i + 1 ≤ s.size := by omega
  clear h
  go_enter Tryd.func60, Tryd.ntmps60
  go_wp2_with fail
  refine (HI.out _).mono ?_
  rintro e w1 ⟨rfl, rfl⟩
  go_wp2
  go_region
  all_goals
    go_wp2
    go_ret3
    exact ⟨rfl, (Below.refl _ _).drew⟩
theorem cut_any {w : World} {s : ByteArray} {v : Value} (h : ∀ W : World, Calls Tryd.prog 60 #[.string s, .string ⟨#[46]⟩] W fun e w' => e = .returned v ∧ Below W.heap.size W w') {a b : ByteArray} {c : Bool} (hv : v = .tuple #[.string a, .string b, .bool c]) :
    Calls Tryd.prog 48 #[.string s, .string ⟨#[46]⟩] w fun e w' => e = .returned (.tuple #[.string a, .string b, .bool c]) ∧ Below w.heap.size w w' := by
  subst hv
  have H := Lib.hid h
  clear h
  go_enter Tryd.func48, Tryd.ntmps48
  go_wp2_with fail
  refine (H.out _).mono ?_
  rintro e w1 ⟨rfl, hb⟩
  go_wp2
  go_ret3
  exact ⟨rfl, hb⟩
end Go.Proofs.YtmbjmgmnicacpaaDoor
