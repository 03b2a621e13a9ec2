/- strconv.FormatUint at base 10, strings.Repeat of a nought, by their contracts. Condition: the table of powers of ten is laid; at most nine noughts. -/
/- What the statements' proofs stand on: a value's form; strconv.FormatUint from its laid table. No condition. -/
/- Boxes of a call's own in a region that draws its order: any row of blocks made and boxes filled, one behind the other; what is kept of them behind each operation. No condition. -/
/- dec.Text by the contracts of what it calls: eight cases. Condition: these. -/
import Derived.Test.YtngkolcpbgibcaaGreatDoorD5
import Derived.Test.YtngkolcpbgibcaaGreatDoorJoin
import Derived.Lib.AppendIntMem
import Derived.Lib.LaidTab
import Derived.Lib.SmallJoins
import Derived.Stop.LaidErr
import Derived.Test.YtngkolcpbgibcaaGreatDoorW4
import Derived.StillTailTactics
import Derived.RegionTactic
import Derived.BigRegion
import Derived.Test.YtngkolcpbgibcaaGreatDoorArg
set_option linter.unusedVariables false
set_option linter.unusedSimpArgs false
namespace Go.Proofs.YtngkolcpbgibcaaGreatDoor
open Go.RowKit Go.Sort Go.Lib
theorem below_grow' (w : World) (k : Nat) (os : Array Obj) : Below w.heap.size w (grow (w.drewN k) os) :=
  ⟨rfl, rfl, rfl, by simp [grow, World.drewN], fun i hi => by
    show (w.heap ++ os)[i]? = w.heap[i]?
    rw [Array.getElem?_append_left hi]⟩
theorem fmt_small {w : World} {u : Nat} (h : u < 100) :
    Calls Tryz.prog 219 #[.int .u64 (u : Nat), .int .i64 10] w fun e w' => e = .returned (sL (decDigits u)) ∧ Below w.heap.size w w' := by
  have HS := Lib.hid (fun W : World => Tryz.internal_strconv_small u h W); have h1 : ((u : Nat) : Int) < 100 := by omega
  have h2 : IntKind.i64.wrap ((u : Nat) : Int) = (u : Nat) := IntWalk.i64_in _ (by omega); clear h; unfold sL; go_enter Tryz.func219, Tryz.ntmps219
  go_wp2_with fail
  refine (HS.out _).mono ?_; rintro e w1 ⟨rfl, rfl⟩; go_wp2; go_ret; exact ⟨rfl, Below.refl _ _⟩
set_option maxHeartbeats 6400000 in
set_option maxRecDepth 100000 in
theorem fmt_big {w : World} {u : Nat} (h : 100 ≤ u) (hu64 : u < 18446744073709551616) (htab : Lib.TabIs Tryz.prog w "internal/strconv.uint64pow10" .u64 Lib.pow10Tab) :
    Calls Tryz.prog 219 #[.int .u64 (u : Nat), .int .i64 10] w fun e w' => e = .returned (sL (decDigits u)) ∧ Below w.heap.size w w' := by
  have hu1 : 1 ≤ u := by omega
  have hnd20 : Lib.nDigits u ≤ 20 := by have := Lib.numDigits_eq u hu1 hu64; split at this <;> omega
  have hal : Tryz.prog.arrayLen 261 = 24 := by simp [Program.arrayLen, Tryz.underlying261]
  have hsl : ∀ W, (Instr.sliceAt 261 (.pointer (some ⟨w.heap.size, 0, none⟩)) none (some (.int .i64 (Lib.nDigits u : Int))) none).run Tryz.prog W = .ok (.slice (some ⟨w.heap.size, 0, none⟩) (Lib.nDigits u) 24) W := fun W => by
    rw [run_sliceAt_array_h W 261 ⟨w.heap.size, 0, none⟩ (by simp [Program.arrayLen, Program.elem, Tryz.underlying261]) .i64 (Lib.nDigits u : Int) (by omega) (by rw [hal]; omega)]; go_simp
  have hH0 := Lib.holds_zero0 w 261 (Lib.nDigits u) (by omega); have hfmt := Tryz.internal_strconv_formatBase10 w.heap.size 0 24 u (Array.replicate (Lib.nDigits u) 0) (w.alloc (.cells Lib.zeros24 261)) hH0 (by rw [Array.size_replicate]; exact Lib.lt_pow_nDigits u) hu64 (by rw [Array.size_replicate]; omega); rw [Array.size_replicate] at hfmt; have HH0 := Lib.hid hH0; have HN := Lib.hid (fun W ht => Tryz.internal_strconv_numDigits u hu1 hu64 W ht); have HT := Lib.hid (Lib.tabIs_alloc htab (.cells Lib.zeros24 261)); have HF := Lib.hid hfmt; have iu : (100 : Int) ≤ ((u : Nat) : Int) := by omega
  have hdl := Lib.hid (Lib.decDigits_length u); clear hH0 hal hfmt h htab hu1; unfold sL; go_enter Tryz.func219, Tryz.ntmps219
  go_wp2_with fail
  refine (HN.out _ HT.out).mono ?_; rintro e w1 ⟨rfl, rfl⟩
  go_wp2_with fail
  refine HF.out.mono ?_; rintro e w' ⟨rfl, k, v', dk, rfl, hF⟩
  have hcv : (convert 148 9 (.slice (some ⟨w.heap.size, 0, none⟩) (Lib.nDigits u) 24)).run Tryz.prog ((putRow (fun (b : UInt8) => Value.int .u8 (b.toNat : Int)) (w.alloc (.cells Lib.zeros24 261)) w.heap.size 0 dk).drewN k) = .ok (.string ⟨(Lib.decDigits u).toArray⟩) ((putRow (fun (b : UInt8) => Value.int .u8 (b.toNat : Int)) (w.alloc (.cells Lib.zeros24 261)) w.heap.size 0 dk).drewN k) := by
    have h := run_convert_bytes_back (P := Tryz.prog) ((putRow (fun (b : UInt8) => Value.int .u8 (b.toNat : Int)) (w.alloc (.cells Lib.zeros24 261)) w.heap.size 0 dk).drewN k) 148 9 5 ⟨w.heap.size, 0, none⟩ 24 (Lib.decDigits u) Tryz.underlying148 Tryz.underlying5 Tryz.underlying9 (fun j hj => by
      rw [Lib.row_is_numeral hF j hj, Lib.add_plain, World.cell?_drewN]
      exact cell?_putRow (fun (b : UInt8) => Value.int .u8 (b.toNat : Int)) _ w.heap.size 0 _ dk HH0.out (by rw [hF.size, Array.size_replicate]) j (by rw [hF.size]; rw [Lib.decDigits_length] at hj; exact hj))
    rw [Lib.decDigits_length] at h; exact h
  obtain ⟨os, eo⟩ := Lib.fin_at w (.cells Lib.zeros24 261) dk k 0; have hbel : Below w.heap.size w ((putRow (fun (b : UInt8) => Value.int .u8 (b.toNat : Int)) (w.alloc (.cells Lib.zeros24 261)) w.heap.size 0 dk).drewN k) := by rw [eo]; exact below_grow' w k os
  clear eo hF HF HN HT HH0; generalize (putRow (fun (b : UInt8) => Value.int .u8 (b.toNat : Int)) (w.alloc (.cells Lib.zeros24 261)) w.heap.size 0 dk).drewN k = W2 at *; go_wp2; go_ret; exact ⟨rfl, hbel⟩
def Tens (w : World) : Prop := ∀ (u : Nat) (W : World), u < 18446744073709551616 → Below w.heap.size w W →
  Calls Tryz.prog 213 #[.int .u64 (u : Nat), .int .i64 10] W fun e w' => e = .returned (sL (decDigits u)) ∧ Below W.heap.size W w'
theorem Tens.below {w w' : World} (h : Tens w) (hb : Below w.heap.size w w') : Tens w' := fun n W hn hb' => h n W hn (hb.trans (hb'.mono hb.size))
theorem tab_below {P : Program} {w w' : World} {name : String} {k : IntKind} {zs : List Int} (h : Lib.TabIs P w name k zs) (hb : Below w.heap.size w w') : Lib.TabIs P w' name k zs := by
  unfold Lib.TabIs World.var? at *
  cases hg : P.globalNamed name with
  | none => rw [hg] at h; cases h
  | some g =>
    rw [hg] at h; rw [← h]; simp only [Option.bind_some] at h ⊢
    have hlt : g < w.heap.size := by
      rcases Nat.lt_or_ge g w.heap.size with hl | hl
      · exact hl
      · simp [Array.getElem?_eq_none hl] at h
    simp [hb.block g hlt]
theorem fmt0_any {w : World} (u : Nat) (hu : u < 18446744073709551616) (htab : Lib.TabIs Tryz.prog w "internal/strconv.uint64pow10" .u64 Lib.pow10Tab) :
    Calls Tryz.prog 219 #[.int .u64 (u : Nat), .int .i64 10] w fun e w' => e = .returned (sL (decDigits u)) ∧ Below w.heap.size w w' := by
  by_cases h : u < 100
  · exact fmt_small h
  · exact fmt_big (by omega) hu htab
theorem tens_of {w : World} (h : Lib.TabIs Tryz.prog w "internal/strconv.uint64pow10" .u64 Lib.pow10Tab) : Tens w := fun u W hu hb => by
  have HF := Lib.hid (fmt0_any (w := W) u hu (tab_below h hb)); clear h hb hu; generalize sL (decDigits u) = V at *; go_enter Tryz.func213, Tryz.ntmps213
  go_wp2_with fail
  refine HF.out.mono ?_; rintro e w1 ⟨rfl, hb⟩; go_wp2; go_ret; exact ⟨rfl, hb⟩
theorem hp_of {w : World} {s p : ByteArray} {b : Bool} (h2 : Lib.hasPrefix s.data.toList p.data.toList = b) :
    Calls Tryz.prog 206 #[.string s, .string p] w fun e w' => e = .returned (.bool b) ∧ w' = w := by
  have := Tryz.strings_HasPrefix s p w; rw [h2] at this; exact this
set_option maxRecDepth 1000000 in
theorem rep1 {w : World} : Calls Tryz.prog 183 #[.string ⟨#[48]⟩, .int .i64 1] w fun e w' => e = .returned (.string ⟨#[48]⟩) ∧ w' = w := by
  go_enter Tryz.func183, Tryz.ntmps183; go_wp2; go_ret; exact ⟨rfl, rfl⟩
set_option maxRecDepth 1000000 in
theorem rep2 {w : World} : Calls Tryz.prog 183 #[.string ⟨#[48]⟩, .int .i64 2] w fun e w' => e = .returned (.string ⟨#[48, 48]⟩) ∧ w' = w := by
  have HM : Hid (∀ W : World, Calls Tryz.prog 205 #[.int .u64 1, .int .u64 2] W fun e w' => e = .returned (.tuple #[.int .u64 0, .int .u64 2]) ∧ w' = W) := Lib.hid (fun W => Tryz.bits_Mul 1 2 (by decide) (by decide) W); have HN : Hid (∀ (W : World) (s : ByteArray), Lib.hasPrefix s.data.toList [48] = false → Calls Tryz.prog 206 #[.string s, .string ⟨#[48]⟩] W fun e w' => e = .returned (.bool false) ∧ w' = W) := Lib.hid (fun W s h => hp_of h); have HY : Hid (∀ (W : World) (s : ByteArray), Lib.hasPrefix s.data.toList [48] = true → Calls Tryz.prog 206 #[.string s, .string ⟨#[48]⟩] W fun e w' => e = .returned (.bool true) ∧ w' = W) := Lib.hid (fun W s h => hp_of h); go_enter Tryz.func183, Tryz.ntmps183
  go_wp2_with fail
  refine (HM.out _).mono ?_; rintro e w1 ⟨rfl, rfl⟩
  go_wp2_with fail
  refine (HN.out _ _ (by decide)).mono ?_; rintro e w1 ⟨rfl, rfl⟩
  go_wp2_with fail
  refine (HN.out _ _ (by decide)).mono ?_; rintro e w1 ⟨rfl, rfl⟩
  go_wp2_with fail
  refine (HY.out _ _ (by decide)).mono ?_; rintro e w1 ⟨rfl, rfl⟩; go_wp2; go_ret; exact ⟨rfl, rfl⟩
set_option maxRecDepth 1000000 in
theorem rep3 {w : World} : Calls Tryz.prog 183 #[.string ⟨#[48]⟩, .int .i64 3] w fun e w' => e = .returned (.string ⟨#[48, 48, 48]⟩) ∧ w' = w := by
  have HM : Hid (∀ W : World, Calls Tryz.prog 205 #[.int .u64 1, .int .u64 3] W fun e w' => e = .returned (.tuple #[.int .u64 0, .int .u64 3]) ∧ w' = W) := Lib.hid (fun W => Tryz.bits_Mul 1 3 (by decide) (by decide) W); have HN : Hid (∀ (W : World) (s : ByteArray), Lib.hasPrefix s.data.toList [48] = false → Calls Tryz.prog 206 #[.string s, .string ⟨#[48]⟩] W fun e w' => e = .returned (.bool false) ∧ w' = W) := Lib.hid (fun W s h => hp_of h); have HY : Hid (∀ (W : World) (s : ByteArray), Lib.hasPrefix s.data.toList [48] = true → Calls Tryz.prog 206 #[.string s, .string ⟨#[48]⟩] W fun e w' => e = .returned (.bool true) ∧ w' = W) := Lib.hid (fun W s h => hp_of h); go_enter Tryz.func183, Tryz.ntmps183
  go_wp2_with fail
  refine (HM.out _).mono ?_; rintro e w1 ⟨rfl, rfl⟩
  go_wp2_with fail
  refine (HN.out _ _ (by decide)).mono ?_; rintro e w1 ⟨rfl, rfl⟩
  go_wp2_with fail
  refine (HN.out _ _ (by decide)).mono ?_; rintro e w1 ⟨rfl, rfl⟩
  go_wp2_with fail
  refine (HY.out _ _ (by decide)).mono ?_; rintro e w1 ⟨rfl, rfl⟩; go_wp2; go_ret; exact ⟨rfl, rfl⟩
set_option maxRecDepth 1000000 in
theorem rep4 {w : World} : Calls Tryz.prog 183 #[.string ⟨#[48]⟩, .int .i64 4] w fun e w' => e = .returned (.string ⟨#[48, 48, 48, 48]⟩) ∧ w' = w := by
  have HM : Hid (∀ W : World, Calls Tryz.prog 205 #[.int .u64 1, .int .u64 4] W fun e w' => e = .returned (.tuple #[.int .u64 0, .int .u64 4]) ∧ w' = W) := Lib.hid (fun W => Tryz.bits_Mul 1 4 (by decide) (by decide) W); have HN : Hid (∀ (W : World) (s : ByteArray), Lib.hasPrefix s.data.toList [48] = false → Calls Tryz.prog 206 #[.string s, .string ⟨#[48]⟩] W fun e w' => e = .returned (.bool false) ∧ w' = W) := Lib.hid (fun W s h => hp_of h); have HY : Hid (∀ (W : World) (s : ByteArray), Lib.hasPrefix s.data.toList [48] = true → Calls Tryz.prog 206 #[.string s, .string ⟨#[48]⟩] W fun e w' => e = .returned (.bool true) ∧ w' = W) := Lib.hid (fun W s h => hp_of h); go_enter Tryz.func183, Tryz.ntmps183
  go_wp2_with fail
  refine (HM.out _).mono ?_; rintro e w1 ⟨rfl, rfl⟩
  go_wp2_with fail
  refine (HN.out _ _ (by decide)).mono ?_; rintro e w1 ⟨rfl, rfl⟩
  go_wp2_with fail
  refine (HN.out _ _ (by decide)).mono ?_; rintro e w1 ⟨rfl, rfl⟩
  go_wp2_with fail
  refine (HY.out _ _ (by decide)).mono ?_; rintro e w1 ⟨rfl, rfl⟩; go_wp2; go_ret; exact ⟨rfl, rfl⟩
set_option maxRecDepth 1000000 in
theorem rep5 {w : World} : Calls Tryz.prog 183 #[.string ⟨#[48]⟩, .int .i64 5] w fun e w' => e = .returned (.string ⟨#[48, 48, 48, 48, 48]⟩) ∧ w' = w := by
  have HM : Hid (∀ W : World, Calls Tryz.prog 205 #[.int .u64 1, .int .u64 5] W fun e w' => e = .returned (.tuple #[.int .u64 0, .int .u64 5]) ∧ w' = W) := Lib.hid (fun W => Tryz.bits_Mul 1 5 (by decide) (by decide) W); have HN : Hid (∀ (W : World) (s : ByteArray), Lib.hasPrefix s.data.toList [48] = false → Calls Tryz.prog 206 #[.string s, .string ⟨#[48]⟩] W fun e w' => e = .returned (.bool false) ∧ w' = W) := Lib.hid (fun W s h => hp_of h); have HY : Hid (∀ (W : World) (s : ByteArray), Lib.hasPrefix s.data.toList [48] = true → Calls Tryz.prog 206 #[.string s, .string ⟨#[48]⟩] W fun e w' => e = .returned (.bool true) ∧ w' = W) := Lib.hid (fun W s h => hp_of h); go_enter Tryz.func183, Tryz.ntmps183
  go_wp2_with fail
  refine (HM.out _).mono ?_; rintro e w1 ⟨rfl, rfl⟩
  go_wp2_with fail
  refine (HN.out _ _ (by decide)).mono ?_; rintro e w1 ⟨rfl, rfl⟩
  go_wp2_with fail
  refine (HN.out _ _ (by decide)).mono ?_; rintro e w1 ⟨rfl, rfl⟩
  go_wp2_with fail
  refine (HY.out _ _ (by decide)).mono ?_; rintro e w1 ⟨rfl, rfl⟩; go_wp2; go_ret; exact ⟨rfl, rfl⟩
set_option maxRecDepth 1000000 in
theorem rep6 {w : World} : Calls Tryz.prog 183 #[.string ⟨#[48]⟩, .int .i64 6] w fun e w' => e = .returned (.string ⟨#[48, 48, 48, 48, 48, 48]⟩) ∧ w' = w := by
  have HM : Hid (∀ W : World, Calls Tryz.prog 205 #[.int .u64 1, .int .u64 6] W fun e w' => e = .returned (.tuple #[.int .u64 0, .int .u64 6]) ∧ w' = W) := Lib.hid (fun W => Tryz.bits_Mul 1 6 (by decide) (by decide) W); have HN : Hid (∀ (W : World) (s : ByteArray), Lib.hasPrefix s.data.toList [48] = false → Calls Tryz.prog 206 #[.string s, .string ⟨#[48]⟩] W fun e w' => e = .returned (.bool false) ∧ w' = W) := Lib.hid (fun W s h => hp_of h); have HY : Hid (∀ (W : World) (s : ByteArray), Lib.hasPrefix s.data.toList [48] = true → Calls Tryz.prog 206 #[.string s, .string ⟨#[48]⟩] W fun e w' => e = .returned (.bool true) ∧ w' = W) := Lib.hid (fun W s h => hp_of h); go_enter Tryz.func183, Tryz.ntmps183
  go_wp2_with fail
  refine (HM.out _).mono ?_; rintro e w1 ⟨rfl, rfl⟩
  go_wp2_with fail
  refine (HN.out _ _ (by decide)).mono ?_; rintro e w1 ⟨rfl, rfl⟩
  go_wp2_with fail
  refine (HN.out _ _ (by decide)).mono ?_; rintro e w1 ⟨rfl, rfl⟩
  go_wp2_with fail
  refine (HY.out _ _ (by decide)).mono ?_; rintro e w1 ⟨rfl, rfl⟩; go_wp2; go_ret; exact ⟨rfl, rfl⟩
set_option maxRecDepth 1000000 in
theorem rep7 {w : World} : Calls Tryz.prog 183 #[.string ⟨#[48]⟩, .int .i64 7] w fun e w' => e = .returned (.string ⟨#[48, 48, 48, 48, 48, 48, 48]⟩) ∧ w' = w := by
  have HM : Hid (∀ W : World, Calls Tryz.prog 205 #[.int .u64 1, .int .u64 7] W fun e w' => e = .returned (.tuple #[.int .u64 0, .int .u64 7]) ∧ w' = W) := Lib.hid (fun W => Tryz.bits_Mul 1 7 (by decide) (by decide) W); have HN : Hid (∀ (W : World) (s : ByteArray), Lib.hasPrefix s.data.toList [48] = false → Calls Tryz.prog 206 #[.string s, .string ⟨#[48]⟩] W fun e w' => e = .returned (.bool false) ∧ w' = W) := Lib.hid (fun W s h => hp_of h); have HY : Hid (∀ (W : World) (s : ByteArray), Lib.hasPrefix s.data.toList [48] = true → Calls Tryz.prog 206 #[.string s, .string ⟨#[48]⟩] W fun e w' => e = .returned (.bool true) ∧ w' = W) := Lib.hid (fun W s h => hp_of h); go_enter Tryz.func183, Tryz.ntmps183
  go_wp2_with fail
  refine (HM.out _).mono ?_; rintro e w1 ⟨rfl, rfl⟩
  go_wp2_with fail
  refine (HN.out _ _ (by decide)).mono ?_; rintro e w1 ⟨rfl, rfl⟩
  go_wp2_with fail
  refine (HN.out _ _ (by decide)).mono ?_; rintro e w1 ⟨rfl, rfl⟩
  go_wp2_with fail
  refine (HY.out _ _ (by decide)).mono ?_; rintro e w1 ⟨rfl, rfl⟩; go_wp2; go_ret; exact ⟨rfl, rfl⟩
set_option maxRecDepth 1000000 in
theorem rep8 {w : World} : Calls Tryz.prog 183 #[.string ⟨#[48]⟩, .int .i64 8] w fun e w' => e = .returned (.string ⟨#[48, 48, 48, 48, 48, 48, 48, 48]⟩) ∧ w' = w := by
  have HM : Hid (∀ W : World, Calls Tryz.prog 205 #[.int .u64 1, .int .u64 8] W fun e w' => e = .returned (.tuple #[.int .u64 0, .int .u64 8]) ∧ w' = W) := Lib.hid (fun W => Tryz.bits_Mul 1 8 (by decide) (by decide) W); have HN : Hid (∀ (W : World) (s : ByteArray), Lib.hasPrefix s.data.toList [48] = false → Calls Tryz.prog 206 #[.string s, .string ⟨#[48]⟩] W fun e w' => e = .returned (.bool false) ∧ w' = W) := Lib.hid (fun W s h => hp_of h); have HY : Hid (∀ (W : World) (s : ByteArray), Lib.hasPrefix s.data.toList [48] = true → Calls Tryz.prog 206 #[.string s, .string ⟨#[48]⟩] W fun e w' => e = .returned (.bool true) ∧ w' = W) := Lib.hid (fun W s h => hp_of h); go_enter Tryz.func183, Tryz.ntmps183
  go_wp2_with fail
  refine (HM.out _).mono ?_; rintro e w1 ⟨rfl, rfl⟩
  go_wp2_with fail
  refine (HN.out _ _ (by decide)).mono ?_; rintro e w1 ⟨rfl, rfl⟩
  go_wp2_with fail
  refine (HN.out _ _ (by decide)).mono ?_; rintro e w1 ⟨rfl, rfl⟩
  go_wp2_with fail
  refine (HY.out _ _ (by decide)).mono ?_; rintro e w1 ⟨rfl, rfl⟩; go_wp2; go_ret; exact ⟨rfl, rfl⟩
set_option maxRecDepth 1000000 in
theorem rep9 {w : World} : Calls Tryz.prog 183 #[.string ⟨#[48]⟩, .int .i64 9] w fun e w' => e = .returned (.string ⟨#[48, 48, 48, 48, 48, 48, 48, 48, 48]⟩) ∧ w' = w := by
  have HM : Hid (∀ W : World, Calls Tryz.prog 205 #[.int .u64 1, .int .u64 9] W fun e w' => e = .returned (.tuple #[.int .u64 0, .int .u64 9]) ∧ w' = W) := Lib.hid (fun W => Tryz.bits_Mul 1 9 (by decide) (by decide) W); have HN : Hid (∀ (W : World) (s : ByteArray), Lib.hasPrefix s.data.toList [48] = false → Calls Tryz.prog 206 #[.string s, .string ⟨#[48]⟩] W fun e w' => e = .returned (.bool false) ∧ w' = W) := Lib.hid (fun W s h => hp_of h); have HY : Hid (∀ (W : World) (s : ByteArray), Lib.hasPrefix s.data.toList [48] = true → Calls Tryz.prog 206 #[.string s, .string ⟨#[48]⟩] W fun e w' => e = .returned (.bool true) ∧ w' = W) := Lib.hid (fun W s h => hp_of h); go_enter Tryz.func183, Tryz.ntmps183
  go_wp2_with fail
  refine (HM.out _).mono ?_; rintro e w1 ⟨rfl, rfl⟩
  go_wp2_with fail
  refine (HN.out _ _ (by decide)).mono ?_; rintro e w1 ⟨rfl, rfl⟩
  go_wp2_with fail
  refine (HN.out _ _ (by decide)).mono ?_; rintro e w1 ⟨rfl, rfl⟩
  go_wp2_with fail
  refine (HY.out _ _ (by decide)).mono ?_; rintro e w1 ⟨rfl, rfl⟩; go_wp2; go_ret; exact ⟨rfl, rfl⟩
theorem rep_any {w : World} {n : Nat} (h1 : 1 ≤ n) (h9 : n ≤ 9) : Calls Tryz.prog 183 #[.string ⟨#[48]⟩, .int .i64 (n : Nat)] w fun e w' => e = .returned (sL (List.replicate n 48)) ∧ w' = w := by
  rcases (by omega : n = 1 ∨ n = 2 ∨ n = 3 ∨ n = 4 ∨ n = 5 ∨ n = 6 ∨ n = 7 ∨ n = 8 ∨ n = 9) with rfl | rfl | rfl | rfl | rfl | rfl | rfl | rfl | rfl
  · exact rep1
  · exact rep2
  · exact rep3
  · exact rep4
  · exact rep5
  · exact rep6
  · exact rep7
  · exact rep8
  · exact rep9
end Go.Proofs.YtngkolcpbgibcaaGreatDoor
namespace Go.Proofs.YtngkolcpbgibcaaGreatDoor
open Go.ChangeShapes Go.WideShapes Go.RowKit Go.Joins Go.Sort
section
variable {H : Type} {enc : TypeId × Value → H} {P : Program} {W : World} {base b0 : Nat} {sp : Nat → Bool} {held : Bool} {r : Reach} {v : Value} {d : DataW H} {p : List MemPlace}
end
theorem tab_of {d1 d2 : DataW Unit} {n1 n2 : String} {rest : List (String × DataW Unit)} {W : World} (hL : laidMet Tryz.prog ((n1, d1) :: (n2, d2) :: ("internal/strconv.uint64pow10", Lib.tabData .u64 Lib.pow10Tab) :: rest) W) : Lib.TabIs Tryz.prog W "internal/strconv.uint64pow10" .u64 Lib.pow10Tab :=
  Lib.tabIs_of_head (g := 6) (by kernel_rfl) (by kernel_rfl) Tryz.underlying267 Tryz.underlying117 (by kernel_rfl) (by kernel_rfl) hL.tail.tail
end Go.Proofs.YtngkolcpbgibcaaGreatDoor
namespace Go.Proofs.YtngkolcpbgibcaaGreatDoor
open Go.RowKit
def setBox : List (Nat × TypeId × Array Value) → Nat → Array Value → List (Nat × TypeId × Array Value)
  | [], _, _ => []
  | x :: l, 0, cs => (x.1, x.2.1, cs) :: l
  | x :: l, i + 1, cs => x :: setBox l i cs
def butBox : List (Nat × TypeId × Array Value) → Nat → List (Nat × TypeId × Array Value)
  | [], _ => []
  | _ :: l, 0 => l
  | x :: l, i + 1 => x :: butBox l i
section
variable {w W W' : World} {n g i : Nat} {T : TypeId} {bs bs' : List (Nat × TypeId × Array Value)} {cs z : Array Value} {vals : List Value}
theorem SB.made (h : SB w n bs W) (o : Obj) : SB w n bs (W.alloc o) := ⟨h.bel.alloc h.bel.size _, Nat.le_trans h.size (by simp), fun x hx => (h.bk x hx).alloc _⟩
theorem SB.some_ (h : SB w n bs W) (hs : ∀ x ∈ bs', x ∈ bs) : SB w n bs' W := ⟨h.bel, h.size, fun y hy => h.bk y (hs y hy)⟩
theorem SB.base (w : World) : SB w 0 [] w := ⟨Below.refl _ _, Nat.le_refl _, fun x hx => by cases hx⟩
theorem SB.box (h : SB w n bs W) {x : Nat × TypeId × Array Value} (hx : bs[i]? = some x) : Bk W x.1 x.2.1 x.2.2 := h.bk x (List.mem_of_getElem? hx)
theorem setBox_mem {bs : List (Nat × TypeId × Array Value)} {i : Nat} {y : Nat × TypeId × Array Value} (h : y ∈ setBox bs i cs) {x : Nat × TypeId × Array Value} (hx : bs[i]? = some x) : y = (x.1, x.2.1, cs) ∨ y ∈ butBox bs i := by
  induction bs generalizing i with
  | nil => cases hx
  | cons b l ih =>
    cases i with
    | zero =>
      simp only [List.getElem?_cons_zero, Option.some.injEq] at hx; subst hx; exact (List.mem_cons.1 h).imp id id
    | succ i =>
      simp only [List.getElem?_cons_succ] at hx
      rcases List.mem_cons.1 h with rfl | h
      · exact .inr (List.mem_cons_self ..)
      · exact (ih h hx).imp id (List.mem_cons_of_mem _)
theorem butBox_mem {bs : List (Nat × TypeId × Array Value)} {i : Nat} {y : Nat × TypeId × Array Value} (h : y ∈ butBox bs i) : y ∈ bs := by
  induction bs generalizing i with
  | nil => exact h
  | cons b l ih =>
    cases i with
    | zero => exact List.mem_cons_of_mem _ h
    | succ i =>
      rcases List.mem_cons.1 h with rfl | h
      · exact List.mem_cons_self ..
      · exact List.mem_cons_of_mem _ (ih h)
theorem SB.put1 (h : SB w n bs W) (hi : bs[i]? = some (g, T, cs)) (hg : w.heap.size ≤ g) (hne : ∀ x ∈ butBox bs i, x.1 ≠ g) (j : Nat) (u : Value) :
    SB w n (setBox bs i (cs.setIfInBounds j u)) (W.setCell ⟨g, j, none⟩ u) := by
  refine ⟨h.bel.setCell hg _, by have := h.size; simpa [World.setCell] using this, fun x hx => ?_⟩
  rcases setBox_mem hx hi with rfl | hx
  · exact (h.box hi).set_ j u
  · have hk := h.bk x (butBox_mem hx); have hn := hne x hx; unfold Bk at hk ⊢; rw [Below.heap_setCell W ⟨g, j, none⟩ u x.1 hn]; exact hk
theorem setBox_get {bs : List (Nat × TypeId × Array Value)} {i : Nat} (hi : bs[i]? = some (g, T, z)) : (setBox bs i cs)[i]? = some (g, T, cs) := by
  induction bs generalizing i with
  | nil => cases hi
  | cons b l ih =>
    cases i with
    | zero =>
      simp only [List.getElem?_cons_zero, Option.some.injEq] at hi; subst hi; rfl
    | succ i => exact ih hi
theorem setBox_two {bs : List (Nat × TypeId × Array Value)} {i : Nat} : setBox (setBox bs i z) i cs = setBox bs i cs := by
  induction bs generalizing i with
  | nil => rfl
  | cons b l ih =>
    cases i with
    | zero => rfl
    | succ i => simp only [setBox, ih]
theorem setBox_but {bs : List (Nat × TypeId × Array Value)} {i : Nat} : butBox (setBox bs i cs) i = butBox bs i := by
  induction bs generalizing i with
  | nil => rfl
  | cons b l ih =>
    cases i with
    | zero => rfl
    | succ i => simp only [setBox, butBox, ih]
theorem SB.put2 {a b : Value} (h : SB w n bs W) (hi : bs[i]? = some (g, T, #[a, b])) (hg : w.heap.size ≤ g) (hne : ∀ x ∈ butBox bs i, x.1 ≠ g) (u0 u1 : Value) :
    SB w n (setBox bs i #[u0, u1]) ((W.setCell ⟨g, 0, none⟩ u0).setCell ⟨g, 1, none⟩ u1) := by
  have := (h.put1 hi hg hne 0 u0).put1 (setBox_get hi) hg (by rw [setBox_but]; exact hne) 1 u1; rw [setBox_two] at this
  simpa using this
theorem SB.put6 {a0 a1 a2 a3 a4 a5 : Value} (h : SB w n bs W) (hi : bs[i]? = some (g, T, #[a0, a1, a2, a3, a4, a5])) (hg : w.heap.size ≤ g) (hne : ∀ x ∈ butBox bs i, x.1 ≠ g) (u0 u1 u2 u3 u4 u5 : Value) :
    SB w n (setBox bs i #[u0, u1, u2, u3, u4, u5]) ((((((W.setCell ⟨g, 0, none⟩ u0).setCell ⟨g, 1, none⟩ u1).setCell ⟨g, 2, none⟩ u2).setCell ⟨g, 3, none⟩ u3).setCell ⟨g, 4, none⟩ u4).setCell ⟨g, 5, none⟩ u5) := by
  have step : ∀ {W : World} {bs : List (Nat × TypeId × Array Value)} {z : Array Value} (j : Nat) (u : Value), SB w n (setBox bs i z) W → bs[i]? = some (g, T, #[a0, a1, a2, a3, a4, a5]) → (∀ x ∈ butBox bs i, x.1 ≠ g) →
      SB w n (setBox bs i (z.setIfInBounds j u)) (W.setCell ⟨g, j, none⟩ u) := by
    intro W bs z j u h hi hne; have := h.put1 (setBox_get hi) hg (by rw [setBox_but]; exact hne) j u
    rwa [setBox_two] at this
  have h1 := h.put1 hi hg hne 0 u0; have h6 := step 5 u5 (step 4 u4 (step 3 u3 (step 2 u2 (step 1 u1 h1 hi hne) hi hne) hi hne) hi hne) hi hne
  simpa using h6
inductive Stp where
  | new (T : TypeId) (z : Array Value)
  | put (i : Nat) (cs : Array Value)
def SX (w : World) (n : Nat) : List Stp → List Value → List (Nat × TypeId × Array Value) → World → Prop
  | _, [], bs, W => SB w n bs W
  | .new T z :: r, v :: vs, bs, W => ∃ g, v = .pointer (some ⟨g, 0, none⟩) ∧ w.heap.size + n ≤ g ∧ (∀ x ∈ bs, x.1 ≠ g) ∧ SX w n r vs ((g, T, z) :: bs) W
  | .put i cs :: r, _ :: vs, bs, W => SX w n r vs (setBox bs i cs) W
  | [], _ :: _, bs, W => SB w n bs W
def keepsB : List Stp → Nat → Bool
  | [], _ => true
  | .new _ _ :: r, i => keepsB r (i + 1)
  | .put j _ :: r, i => i != j && keepsB r i
theorem setBox_ne {bs : List (Nat × TypeId × Array Value)} {i j : Nat} (h : i ≠ j) : (setBox bs j cs)[i]? = bs[i]? := by
  induction bs generalizing i j with
  | nil => rfl
  | cons b l ih =>
    cases j with
    | zero =>
      cases i with
      | zero => exact absurd rfl h
      | succ i => rfl
    | succ j =>
      cases i with
      | zero => rfl
      | succ i => exact ih (by omega)
theorem SX.bk {st : List Stp} (h : SX w n st vals bs W) (i : Nat) {x : Nat × TypeId × Array Value} (hi : bs[i]? = some x) (hk : keepsB st i = true) : Bk W x.1 x.2.1 x.2.2 := by
  induction st generalizing vals bs i with
  | nil => cases vals <;> exact SB.box h hi
  | cons s r ih =>
    cases vals with
    | nil => cases s <;> exact SB.box h hi
    | cons v vs =>
      cases s with
      | new T z =>
        obtain ⟨g, _, _, _, h⟩ := h; exact ih h (i + 1) hi hk
      | put j c =>
        simp only [keepsB, Bool.and_eq_true, bne_iff_ne, ne_eq] at hk; exact ih h i (by rw [setBox_ne hk.1]; exact hi) hk.2
theorem SX.call {st : List Stp} (h : SX w n st vals bs W) (hb : Below W.heap.size W W') : SX w n st vals bs W' := by
  induction st generalizing vals bs with
  | nil => cases vals <;> exact SB.call h hb
  | cons s r ih =>
    cases vals with
    | nil => cases s <;> exact SB.call h hb
    | cons v vs =>
      cases s with
      | new T z =>
        obtain ⟨g, h1, h2, h3, h⟩ := h; exact ⟨g, h1, h2, h3, ih h⟩
      | put j c => exact ih (vals := vs) (bs := setBox bs j c) h
end
end Go.Proofs.YtngkolcpbgibcaaGreatDoor
namespace Go.Proofs.YtngkolcpbgibcaaGreatDoor
open Go.RowKit
set_option maxRecDepth 100000 in
theorem tw_nwa {w : World} {m : Int} {n : Nat} {D : List UInt8}
    (K1 : ∀ W : World, Calls Tryz.prog 63 #[.agg #[.int .i64 m, .int .i64 0]] W fun e w' => e = .returned (.int .i64 0) ∧ Below W.heap.size W w')
    (K2 : ∀ W : World, Calls Tryz.prog 88 #[.int .i64 m] W fun e w' => e = .returned (.agg #[.bool false, .int .u64 0, .int .u64 (n : Nat)]) ∧ Below W.heap.size W w')
    (K3 : ∀ W : World, Below w.heap.size w W → Calls Tryz.prog 213 #[.int .u64 (n : Nat), .int .i64 10] W fun e w' => e = .returned (sL D) ∧ Below W.heap.size W w')
    (_h1 : ¬ 0 < wrap64 (1 - (D.length : Int)))
    (hzz : D.length ≤ 100)
    (hD : 1 ≤ D.length)
    : Calls Tryz.prog 199 #[.agg #[.int .i64 m, .int .i64 0]] w fun e w' => e = .returned (.string (⟨D.toArray⟩ : ByteArray)) ∧ Below w.heap.size w w' := by
  have H1 := Lib.hid K1; have H2 := Lib.hid K2; have H3 := Lib.hid K3; clear K1 K2 K3; have HZ := Lib.hid hzz; clear hzz; unfold sL at *; have H0 := Lib.hid (sb1 w 30 #[.int .i64 m, .int .i64 0]); go_enter Tryz.func199, Tryz.ntmps199
  go_wp2_with fail
  refine (H1.out _).mono ?_; rintro e w1 ⟨rfl, hb⟩; have HB := Lib.hid (H0.out.call hb); clear hb H0; have k1 := HB.out.bk _ (.head _); have c0 := k1.cell 0; have c1 := k1.cell 1; clear k1
  go_wp2_with fail
  refine (H2.out _).mono ?_; rintro e w2 ⟨rfl, hb⟩; have HB2 := Lib.hid ((HB.out.call hb).alloc 119 #[.bool false, .int .u64 0, .int .u64 (n : Nat)]); clear hb HB c0 c1; have k1 := HB2.out.bk _ (.tail _ (.head _)); have c0 := k1.cell 0; have c1 := k1.cell 1; have k2 := HB2.out.bk _ (.head _); have d0 := k2.cell 0; have d1 := k2.cell 1; have d2 := k2.cell 2; clear k1 k2
  go_wp2_with fail
  refine (H3.out _ HB2.out.bel).mono ?_; rintro e w3 ⟨rfl, hb⟩; have HB3 := Lib.hid (HB2.out.call hb); clear hb HB2 c0 c1 d0 d1 d2; have k1 := HB3.out.bk _ (.tail _ (.head _)); have c0 := k1.cell 0; have c1 := k1.cell 1; have k2 := HB3.out.bk _ (.head _); have d0 := k2.cell 0; have d1 := k2.cell 1; have d2 := k2.cell 2; clear k1 k2; have hbel := HB3.out.bel; clear HB3; have hzz := HZ.out; have hD' : ¬ (D.length : Int) < 1 := by omega
  clear _h1; go_wp2; go_ret; exact ⟨rfl, hbel⟩
set_option maxRecDepth 100000 in
theorem tw_nwm {w : World} {m : Int} {n : Nat} {D : List UInt8}
    (K1 : ∀ W : World, Calls Tryz.prog 63 #[.agg #[.int .i64 m, .int .i64 0]] W fun e w' => e = .returned (.int .i64 0) ∧ Below W.heap.size W w')
    (K2 : ∀ W : World, Calls Tryz.prog 88 #[.int .i64 m] W fun e w' => e = .returned (.agg #[.bool true, .int .u64 0, .int .u64 (n : Nat)]) ∧ Below W.heap.size W w')
    (K3 : ∀ W : World, Below w.heap.size w W → Calls Tryz.prog 213 #[.int .u64 (n : Nat), .int .i64 10] W fun e w' => e = .returned (sL D) ∧ Below W.heap.size W w')
    (_h1 : ¬ 0 < wrap64 (1 - (D.length : Int)))
    (hzz : D.length ≤ 100)
    (hD : 1 ≤ D.length)
    : Calls Tryz.prog 199 #[.agg #[.int .i64 m, .int .i64 0]] w fun e w' => e = .returned (.string ((⟨#[45]⟩ : ByteArray) ++ (⟨D.toArray⟩ : ByteArray))) ∧ Below w.heap.size w w' := by
  have H1 := Lib.hid K1; have H2 := Lib.hid K2; have H3 := Lib.hid K3; clear K1 K2 K3; have HZ := Lib.hid hzz; clear hzz; unfold sL at *; have H0 := Lib.hid (sb1 w 30 #[.int .i64 m, .int .i64 0]); go_enter Tryz.func199, Tryz.ntmps199
  go_wp2_with fail
  refine (H1.out _).mono ?_; rintro e w1 ⟨rfl, hb⟩; have HB := Lib.hid (H0.out.call hb); clear hb H0; have k1 := HB.out.bk _ (.head _); have c0 := k1.cell 0; have c1 := k1.cell 1; clear k1
  go_wp2_with fail
  refine (H2.out _).mono ?_; rintro e w2 ⟨rfl, hb⟩; have HB2 := Lib.hid ((HB.out.call hb).alloc 119 #[.bool true, .int .u64 0, .int .u64 (n : Nat)]); clear hb HB c0 c1; have k1 := HB2.out.bk _ (.tail _ (.head _)); have c0 := k1.cell 0; have c1 := k1.cell 1; have k2 := HB2.out.bk _ (.head _); have d0 := k2.cell 0; have d1 := k2.cell 1; have d2 := k2.cell 2; clear k1 k2
  go_wp2_with fail
  refine (H3.out _ HB2.out.bel).mono ?_; rintro e w3 ⟨rfl, hb⟩; have HB3 := Lib.hid (HB2.out.call hb); clear hb HB2 c0 c1 d0 d1 d2; have k1 := HB3.out.bk _ (.tail _ (.head _)); have c0 := k1.cell 0; have c1 := k1.cell 1; have k2 := HB3.out.bk _ (.head _); have d0 := k2.cell 0; have d1 := k2.cell 1; have d2 := k2.cell 2; clear k1 k2; have hbel := HB3.out.bel; clear HB3; have hzz := HZ.out; have hD' : ¬ (D.length : Int) < 1 := by omega
  clear _h1; go_wp2; go_ret; exact ⟨rfl, hbel⟩
set_option maxRecDepth 100000 in
theorem tw_npa {w : World} {m : Int} {n s p : Nat} {D : List UInt8}
    (K1 : ∀ W : World, Calls Tryz.prog 63 #[.agg #[.int .i64 m, .int .i64 (s : Nat)]] W fun e w' => e = .returned (.int .i64 0) ∧ Below W.heap.size W w')
    (K2 : ∀ W : World, Calls Tryz.prog 88 #[.int .i64 m] W fun e w' => e = .returned (.agg #[.bool false, .int .u64 0, .int .u64 (n : Nat)]) ∧ Below W.heap.size W w')
    (K3 : ∀ W : World, Below w.heap.size w W → Calls Tryz.prog 213 #[.int .u64 (n : Nat), .int .i64 10] W fun e w' => e = .returned (sL D) ∧ Below W.heap.size W w')
    (h1 : ¬ 0 < wrap64 (wrap64 ((s : Int) + 1) - (D.length : Int)))
    (hs : (0 : Int) < (s : Nat)) (h2 : wrap64 ((D.length : Int) - (s : Int)) = (p : Nat)) (hp : p ≤ D.length)
    (hzz : D.length ≤ 100)
    : Calls Tryz.prog 199 #[.agg #[.int .i64 m, .int .i64 (s : Nat)]] w fun e w' => e = .returned (.string ((⟨D.toArray⟩ : ByteArray).extract 0 p ++ ⟨#[46]⟩ ++ (⟨D.toArray⟩ : ByteArray).extract p (⟨D.toArray⟩ : ByteArray).size)) ∧ Below w.heap.size w w' := by
  have H1 := Lib.hid K1; have H2 := Lib.hid K2; have H3 := Lib.hid K3; clear K1 K2 K3; have HZ := Lib.hid hzz; clear hzz; unfold sL at *; have H0 := Lib.hid (sb1 w 30 #[.int .i64 m, .int .i64 (s : Nat)]); go_enter Tryz.func199, Tryz.ntmps199
  go_wp2_with fail
  refine (H1.out _).mono ?_; rintro e w1 ⟨rfl, hb⟩; have HB := Lib.hid (H0.out.call hb); clear hb H0; have k1 := HB.out.bk _ (.head _); have c0 := k1.cell 0; have c1 := k1.cell 1; clear k1
  go_wp2_with fail
  refine (H2.out _).mono ?_; rintro e w2 ⟨rfl, hb⟩; have HB2 := Lib.hid ((HB.out.call hb).alloc 119 #[.bool false, .int .u64 0, .int .u64 (n : Nat)]); clear hb HB c0 c1; have k1 := HB2.out.bk _ (.tail _ (.head _)); have c0 := k1.cell 0; have c1 := k1.cell 1; have k2 := HB2.out.bk _ (.head _); have d0 := k2.cell 0; have d1 := k2.cell 1; have d2 := k2.cell 2; clear k1 k2
  go_wp2_with fail
  refine (H3.out _ HB2.out.bel).mono ?_; rintro e w3 ⟨rfl, hb⟩; have HB3 := Lib.hid (HB2.out.call hb); clear hb HB2 c0 c1 d0 d1 d2; have k1 := HB3.out.bk _ (.tail _ (.head _)); have c0 := k1.cell 0; have c1 := k1.cell 1; have k2 := HB3.out.bk _ (.head _); have d0 := k2.cell 0; have d1 := k2.cell 1; have d2 := k2.cell 2; clear k1 k2
  go_wp2_with fail
  obtain ⟨q, hq⟩ : ∃ q : ByteArray, (⟨D.toArray⟩ : ByteArray) = q := ⟨_, rfl⟩
  have HQ := Lib.hid hq; have hqs : q.size = D.length := by rw [← hq]; simp [ByteArray.size]
  have hq1 : p ≤ q.size := by omega
  have hq2 : (p : Int) ≤ (q.size : Int) := by omega
  have hq3 : q.size ≤ 100 := by have := HZ.out; omega
  rw [hq]; simp only [h2]; have hbel := HB3.out.bel; clear hq hqs h1 hs hp HZ HB3 h2 H1 H2 H3 c0 c1 d1 d2
  go_region
  all_goals
    go_wp2; go_ret; exact ⟨by rw [HQ.out]; rfl, hbel.drew⟩
set_option maxRecDepth 100000 in
theorem tw_npm {w : World} {m : Int} {n s p : Nat} {D : List UInt8}
    (K1 : ∀ W : World, Calls Tryz.prog 63 #[.agg #[.int .i64 m, .int .i64 (s : Nat)]] W fun e w' => e = .returned (.int .i64 0) ∧ Below W.heap.size W w')
    (K2 : ∀ W : World, Calls Tryz.prog 88 #[.int .i64 m] W fun e w' => e = .returned (.agg #[.bool true, .int .u64 0, .int .u64 (n : Nat)]) ∧ Below W.heap.size W w')
    (K3 : ∀ W : World, Below w.heap.size w W → Calls Tryz.prog 213 #[.int .u64 (n : Nat), .int .i64 10] W fun e w' => e = .returned (sL D) ∧ Below W.heap.size W w')
    (h1 : ¬ 0 < wrap64 (wrap64 ((s : Int) + 1) - (D.length : Int)))
    (hs : (0 : Int) < (s : Nat)) (h2 : wrap64 ((D.length : Int) - (s : Int)) = (p : Nat)) (hp : p ≤ D.length)
    (hzz : D.length ≤ 100)
    : Calls Tryz.prog 199 #[.agg #[.int .i64 m, .int .i64 (s : Nat)]] w fun e w' => e = .returned (.string ((⟨#[45]⟩ : ByteArray) ++ ((⟨D.toArray⟩ : ByteArray).extract 0 p ++ ⟨#[46]⟩ ++ (⟨D.toArray⟩ : ByteArray).extract p (⟨D.toArray⟩ : ByteArray).size))) ∧ Below w.heap.size w w' := by
  have H1 := Lib.hid K1; have H2 := Lib.hid K2; have H3 := Lib.hid K3; clear K1 K2 K3; have HZ := Lib.hid hzz; clear hzz; unfold sL at *; have H0 := Lib.hid (sb1 w 30 #[.int .i64 m, .int .i64 (s : Nat)]); go_enter Tryz.func199, Tryz.ntmps199
  go_wp2_with fail
  refine (H1.out _).mono ?_; rintro e w1 ⟨rfl, hb⟩; have HB := Lib.hid (H0.out.call hb); clear hb H0; have k1 := HB.out.bk _ (.head _); have c0 := k1.cell 0; have c1 := k1.cell 1; clear k1
  go_wp2_with fail
  refine (H2.out _).mono ?_; rintro e w2 ⟨rfl, hb⟩; have HB2 := Lib.hid ((HB.out.call hb).alloc 119 #[.bool true, .int .u64 0, .int .u64 (n : Nat)]); clear hb HB c0 c1; have k1 := HB2.out.bk _ (.tail _ (.head _)); have c0 := k1.cell 0; have c1 := k1.cell 1; have k2 := HB2.out.bk _ (.head _); have d0 := k2.cell 0; have d1 := k2.cell 1; have d2 := k2.cell 2; clear k1 k2
  go_wp2_with fail
  refine (H3.out _ HB2.out.bel).mono ?_; rintro e w3 ⟨rfl, hb⟩; have HB3 := Lib.hid (HB2.out.call hb); clear hb HB2 c0 c1 d0 d1 d2; have k1 := HB3.out.bk _ (.tail _ (.head _)); have c0 := k1.cell 0; have c1 := k1.cell 1; have k2 := HB3.out.bk _ (.head _); have d0 := k2.cell 0; have d1 := k2.cell 1; have d2 := k2.cell 2; clear k1 k2
  go_wp2_with fail
  obtain ⟨q, hq⟩ : ∃ q : ByteArray, (⟨D.toArray⟩ : ByteArray) = q := ⟨_, rfl⟩
  have HQ := Lib.hid hq; have hqs : q.size = D.length := by rw [← hq]; simp [ByteArray.size]
  have hq1 : p ≤ q.size := by omega
  have hq2 : (p : Int) ≤ (q.size : Int) := by omega
  have hq3 : q.size ≤ 100 := by have := HZ.out; omega
  rw [hq]; simp only [h2]; have hbel := HB3.out.bel; clear hq hqs h1 hs hp HZ HB3 h2 H1 H2 H3 c0 c1 d1 d2
  go_region
  all_goals
    go_wp2; go_ret; exact ⟨by rw [HQ.out]; rfl, hbel.drew⟩
set_option maxRecDepth 100000 in
theorem tw_lpa {w : World} {m : Int} {n s k p : Nat} {D Z : List UInt8}
    (K1 : ∀ W : World, Calls Tryz.prog 63 #[.agg #[.int .i64 m, .int .i64 (s : Nat)]] W fun e w' => e = .returned (.int .i64 0) ∧ Below W.heap.size W w')
    (K2 : ∀ W : World, Calls Tryz.prog 88 #[.int .i64 m] W fun e w' => e = .returned (.agg #[.bool false, .int .u64 0, .int .u64 (n : Nat)]) ∧ Below W.heap.size W w')
    (K3 : ∀ W : World, Below w.heap.size w W → Calls Tryz.prog 213 #[.int .u64 (n : Nat), .int .i64 10] W fun e w' => e = .returned (sL D) ∧ Below W.heap.size W w')
    (K4 : ∀ W : World, Calls Tryz.prog 183 #[.string ⟨#[48]⟩, .int .i64 (k : Nat)] W fun e w' => e = .returned (sL Z) ∧ w' = W)
    (h1 : wrap64 (wrap64 ((s : Int) + 1) - (D.length : Int)) = (k : Nat)) (h0 : (0 : Int) < (k : Nat)) (hsz : ¬ 9223372036854775807 < Z.length + D.length)
    (hs : (0 : Int) < (s : Nat)) (h2 : wrap64 ((Z.length : Int) + (D.length : Int) - (s : Int)) = (p : Nat)) (hp : p ≤ Z.length + D.length)
    (hzz : Z.length + D.length ≤ 100)
    : Calls Tryz.prog 199 #[.agg #[.int .i64 m, .int .i64 (s : Nat)]] w fun e w' => e = .returned (.string (((⟨Z.toArray⟩ : ByteArray) ++ ⟨D.toArray⟩).extract 0 p ++ ⟨#[46]⟩ ++ ((⟨Z.toArray⟩ : ByteArray) ++ ⟨D.toArray⟩).extract p ((⟨Z.toArray⟩ : ByteArray) ++ ⟨D.toArray⟩).size)) ∧ Below w.heap.size w w' := by
  have H1 := Lib.hid K1; have H2 := Lib.hid K2; have H3 := Lib.hid K3; have H4 := Lib.hid K4; clear K1 K2 K3 K4; have HZ := Lib.hid hzz; clear hzz; unfold sL at *; have H0 := Lib.hid (sb1 w 30 #[.int .i64 m, .int .i64 (s : Nat)]); go_enter Tryz.func199, Tryz.ntmps199
  go_wp2_with fail
  refine (H1.out _).mono ?_; rintro e w1 ⟨rfl, hb⟩; have HB := Lib.hid (H0.out.call hb); clear hb H0; have k1 := HB.out.bk _ (.head _); have c0 := k1.cell 0; have c1 := k1.cell 1; clear k1
  go_wp2_with fail
  refine (H2.out _).mono ?_; rintro e w2 ⟨rfl, hb⟩; have HB2 := Lib.hid ((HB.out.call hb).alloc 119 #[.bool false, .int .u64 0, .int .u64 (n : Nat)]); clear hb HB c0 c1; have k1 := HB2.out.bk _ (.tail _ (.head _)); have c0 := k1.cell 0; have c1 := k1.cell 1; have k2 := HB2.out.bk _ (.head _); have d0 := k2.cell 0; have d1 := k2.cell 1; have d2 := k2.cell 2; clear k1 k2
  go_wp2_with fail
  refine (H3.out _ HB2.out.bel).mono ?_; rintro e w3 ⟨rfl, hb⟩; have HB3 := Lib.hid (HB2.out.call hb); clear hb HB2 c0 c1 d0 d1 d2; have k1 := HB3.out.bk _ (.tail _ (.head _)); have c0 := k1.cell 0; have c1 := k1.cell 1; have k2 := HB3.out.bk _ (.head _); have d0 := k2.cell 0; have d1 := k2.cell 1; have d2 := k2.cell 2; clear k1 k2
  go_wp2_with fail
  refine (H4.out _).mono ?_; rintro e w4 ⟨rfl, rfl⟩
  go_wp2_with fail
  obtain ⟨q, hq⟩ : ∃ q : ByteArray, ((⟨Z.toArray⟩ : ByteArray) ++ ⟨D.toArray⟩) = q := ⟨_, rfl⟩
  have HQ := Lib.hid hq; have hqs : q.size = Z.length + D.length := by rw [← hq]; simp [ByteArray.size]
  have hq1 : p ≤ q.size := by omega
  have hq2 : (p : Int) ≤ (q.size : Int) := by omega
  have hq3 : q.size ≤ 100 := by have := HZ.out; omega
  rw [hq]; simp only [h2]; have hbel := HB3.out.bel; clear hq hqs h1 hs hp HZ HB3 h2 H1 H2 H3 c0 c1 d1 d2 h0 hsz H4
  go_region
  all_goals
    go_wp2; go_ret; exact ⟨by rw [HQ.out]; rfl, hbel.drew⟩
set_option maxRecDepth 100000 in
theorem tw_lpm {w : World} {m : Int} {n s k p : Nat} {D Z : List UInt8}
    (K1 : ∀ W : World, Calls Tryz.prog 63 #[.agg #[.int .i64 m, .int .i64 (s : Nat)]] W fun e w' => e = .returned (.int .i64 0) ∧ Below W.heap.size W w')
    (K2 : ∀ W : World, Calls Tryz.prog 88 #[.int .i64 m] W fun e w' => e = .returned (.agg #[.bool true, .int .u64 0, .int .u64 (n : Nat)]) ∧ Below W.heap.size W w')
    (K3 : ∀ W : World, Below w.heap.size w W → Calls Tryz.prog 213 #[.int .u64 (n : Nat), .int .i64 10] W fun e w' => e = .returned (sL D) ∧ Below W.heap.size W w')
    (K4 : ∀ W : World, Calls Tryz.prog 183 #[.string ⟨#[48]⟩, .int .i64 (k : Nat)] W fun e w' => e = .returned (sL Z) ∧ w' = W)
    (h1 : wrap64 (wrap64 ((s : Int) + 1) - (D.length : Int)) = (k : Nat)) (h0 : (0 : Int) < (k : Nat)) (hsz : ¬ 9223372036854775807 < Z.length + D.length)
    (hs : (0 : Int) < (s : Nat)) (h2 : wrap64 ((Z.length : Int) + (D.length : Int) - (s : Int)) = (p : Nat)) (hp : p ≤ Z.length + D.length)
    (hzz : Z.length + D.length ≤ 100)
    : Calls Tryz.prog 199 #[.agg #[.int .i64 m, .int .i64 (s : Nat)]] w fun e w' => e = .returned (.string ((⟨#[45]⟩ : ByteArray) ++ (((⟨Z.toArray⟩ : ByteArray) ++ ⟨D.toArray⟩).extract 0 p ++ ⟨#[46]⟩ ++ ((⟨Z.toArray⟩ : ByteArray) ++ ⟨D.toArray⟩).extract p ((⟨Z.toArray⟩ : ByteArray) ++ ⟨D.toArray⟩).size))) ∧ Below w.heap.size w w' := by
  have H1 := Lib.hid K1; have H2 := Lib.hid K2; have H3 := Lib.hid K3; have H4 := Lib.hid K4; clear K1 K2 K3 K4; have HZ := Lib.hid hzz; clear hzz; unfold sL at *; have H0 := Lib.hid (sb1 w 30 #[.int .i64 m, .int .i64 (s : Nat)]); go_enter Tryz.func199, Tryz.ntmps199
  go_wp2_with fail
  refine (H1.out _).mono ?_; rintro e w1 ⟨rfl, hb⟩; have HB := Lib.hid (H0.out.call hb); clear hb H0; have k1 := HB.out.bk _ (.head _); have c0 := k1.cell 0; have c1 := k1.cell 1; clear k1
  go_wp2_with fail
  refine (H2.out _).mono ?_; rintro e w2 ⟨rfl, hb⟩; have HB2 := Lib.hid ((HB.out.call hb).alloc 119 #[.bool true, .int .u64 0, .int .u64 (n : Nat)]); clear hb HB c0 c1; have k1 := HB2.out.bk _ (.tail _ (.head _)); have c0 := k1.cell 0; have c1 := k1.cell 1; have k2 := HB2.out.bk _ (.head _); have d0 := k2.cell 0; have d1 := k2.cell 1; have d2 := k2.cell 2; clear k1 k2
  go_wp2_with fail
  refine (H3.out _ HB2.out.bel).mono ?_; rintro e w3 ⟨rfl, hb⟩; have HB3 := Lib.hid (HB2.out.call hb); clear hb HB2 c0 c1 d0 d1 d2; have k1 := HB3.out.bk _ (.tail _ (.head _)); have c0 := k1.cell 0; have c1 := k1.cell 1; have k2 := HB3.out.bk _ (.head _); have d0 := k2.cell 0; have d1 := k2.cell 1; have d2 := k2.cell 2; clear k1 k2
  go_wp2_with fail
  refine (H4.out _).mono ?_; rintro e w4 ⟨rfl, rfl⟩
  go_wp2_with fail
  obtain ⟨q, hq⟩ : ∃ q : ByteArray, ((⟨Z.toArray⟩ : ByteArray) ++ ⟨D.toArray⟩) = q := ⟨_, rfl⟩
  have HQ := Lib.hid hq; have hqs : q.size = Z.length + D.length := by rw [← hq]; simp [ByteArray.size]
  have hq1 : p ≤ q.size := by omega
  have hq2 : (p : Int) ≤ (q.size : Int) := by omega
  have hq3 : q.size ≤ 100 := by have := HZ.out; omega
  rw [hq]; simp only [h2]; have hbel := HB3.out.bel; clear hq hqs h1 hs hp HZ HB3 h2 H1 H2 H3 c0 c1 d1 d2 h0 hsz H4
  go_region
  all_goals
    go_wp2; go_ret; exact ⟨by rw [HQ.out]; rfl, hbel.drew⟩
end Go.Proofs.YtngkolcpbgibcaaGreatDoor
