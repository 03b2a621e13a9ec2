/- strconv.FormatUint at base 10, strings.Repeat of a nought, by their contracts. Condition: the table of powers of ten is laid; at most nine noughts. -/
/- What the statements' proofs stand on: a value's form; strconv.FormatUint from its laid table. No condition. -/
/- Boxes of a call's own in a region that draws its order: any row of blocks made and boxes filled, one behind the other; what is kept of them behind each operation. No condition. -/
/- dec.Text by the contracts of what it calls: eight cases. Condition: these. -/
/- dec.Parse of any text by its contract: it tells what the reference's way tells. Condition: the text is not too long. -/
/- dec.Text by its contract: what it tells of a decimal that may be. Condition: strconv.FormatUint keeps its contract (its table is laid). -/
import Derived.Test.YtngkolcpbgibcaaGreatDoorCt
import Derived.Test.YtngkolcpbgibcaaGreatDoorJoin
import Derived.Lib.AppendIntMem
import Derived.Lib.LaidTab
import Derived.Lib.SmallJoins
import Derived.Stop.LaidErr
import Derived.Test.YtngkolcpbgibcaaGreatDoorBox
import Derived.StillTailTactics
import Derived.RegionTactic
import Derived.BigRegion
import Derived.Test.YtngkolcpbgibcaaGreatDoorD5
import Derived.Test.YtngkolcpbgibcaaGreatDoorVl
import Derived.Test.YtngkolcpbgibcaaGreatDoorPa2
set_option linter.unusedVariables false
set_option linter.unusedSimpArgs false
namespace Go.Proofs.YtngkolcpbgibcaaGreatDoor
open Go.RowKit Go.Sort Go.Lib
theorem below_grow' (w : World) (k : Nat) (os : Array Obj) : Below w.heap.size w (grow (w.drewN k) os) :=
  ⟨rfl, rfl, rfl, by simp [grow, World.drewN], fun i hi => by
    show (w.heap ++ os)[i]? = w.heap[i]?
    rw [Array.getElem?_append_left hi]⟩
theorem fmt_small {w : World} {u : Nat} (h : u < 100) :
    Calls Tryz.prog 219 #[.int .u64 (u : Nat), .int .i64 10] w fun e w' => e = .returned (sL (decDigits u)) ∧ Below w.heap.size w w' := by
  have HS := Lib.hid (fun W : World => Tryz.internal_strconv_small u h W); have h1 : ((u : Nat) : Int) < 100 := by omega
  have h2 : IntKind.i64.wrap ((u : Nat) : Int) = (u : Nat) := IntWalk.i64_in _ (by omega); clear h; unfold sL; go_enter Tryz.func219, Tryz.ntmps219
  go_wp2_with fail
  refine (HS.out _).mono ?_; rintro e w1 ⟨rfl, rfl⟩; go_wp2; go_ret; exact ⟨rfl, Below.refl _ _⟩
set_option maxHeartbeats 6400000 in
set_option maxRecDepth 100000 in
theorem fmt_big {w : World} {u : Nat} (h : 100 ≤ u) (hu64 : u < 18446744073709551616) (htab : Lib.TabIs Tryz.prog w "internal/strconv.uint64pow10" .u64 Lib.pow10Tab) :
    Calls Tryz.prog 219 #[.int .u64 (u : Nat), .int .i64 10] w fun e w' => e = .returned (sL (decDigits u)) ∧ Below w.heap.size w w' := by
  have hu1 : 1 ≤ u := by omega
  have hnd20 : Lib.nDigits u ≤ 20 := by have := Lib.numDigits_eq u hu1 hu64; split at this <;> omega
  have hal : Tryz.prog.arrayLen 261 = 24 := by simp [Program.arrayLen, Tryz.underlying261]
  have hsl : ∀ W, (Instr.sliceAt 261 (.pointer (some ⟨w.heap.size, 0, none⟩)) none (some (.int .i64 (Lib.nDigits u : Int))) none).run Tryz.prog W = .ok (.slice (some ⟨w.heap.size, 0, none⟩) (Lib.nDigits u) 24) W := fun W => by
    rw [run_sliceAt_array_h W 261 ⟨w.heap.size, 0, none⟩ (by simp [Program.arrayLen, Program.elem, Tryz.underlying261]) .i64 (Lib.nDigits u : Int) (by omega) (by rw [hal]; omega)]; go_simp
  have hH0 := Lib.holds_zero0 w 261 (Lib.nDigits u) (by omega); have hfmt := Tryz.internal_strconv_formatBase10 w.heap.size 0 24 u (Array.replicate (Lib.nDigits u) 0) (w.alloc (.cells Lib.zeros24 261)) hH0 (by rw [Array.size_replicate]; exact Lib.lt_pow_nDigits u) hu64 (by rw [Array.size_replicate]; omega); rw [Array.size_replicate] at hfmt; have HH0 := Lib.hid hH0; have HN := Lib.hid (fun W ht => Tryz.internal_strconv_numDigits u hu1 hu64 W ht); have HT := Lib.hid (Lib.tabIs_alloc htab (.cells Lib.zeros24 261)); have HF := Lib.hid hfmt; have iu : (100 : Int) ≤ ((u : Nat) : Int) := by omega
  have hdl := Lib.hid (Lib.decDigits_length u); clear hH0 hal hfmt h htab hu1; unfold sL; go_enter Tryz.func219, Tryz.ntmps219
  go_wp2_with fail
  refine (HN.out _ HT.out).mono ?_; rintro e w1 ⟨rfl, rfl⟩
  go_wp2_with fail
  refine HF.out.mono ?_; rintro e w' ⟨rfl, k, v', dk, rfl, hF⟩
  have hcv : (convert 148 9 (.slice (some ⟨w.heap.size, 0, none⟩) (Lib.nDigits u) 24)).run Tryz.prog ((putRow (fun (b : UInt8) => Value.int .u8 (b.toNat : Int)) (w.alloc (.cells Lib.zeros24 261)) w.heap.size 0 dk).drewN k) = .ok (.string ⟨(Lib.decDigits u).toArray⟩) ((putRow (fun (b : UInt8) => Value.int .u8 (b.toNat : Int)) (w.alloc (.cells Lib.zeros24 261)) w.heap.size 0 dk).drewN k) := by
    have h := run_convert_bytes_back (P := Tryz.prog) ((putRow (fun (b : UInt8) => Value.int .u8 (b.toNat : Int)) (w.alloc (.cells Lib.zeros24 261)) w.heap.size 0 dk).drewN k) 148 9 5 ⟨w.heap.size, 0, none⟩ 24 (Lib.decDigits u) Tryz.underlying148 Tryz.underlying5 Tryz.underlying9 (fun j hj => by
      rw [Lib.row_is_numeral hF j hj, Lib.add_plain, World.cell?_drewN]
      exact cell?_putRow (fun (b : UInt8) => Value.int .u8 (b.toNat : Int)) _ w.heap.size 0 _ dk HH0.out (by rw [hF.size, Array.size_replicate]) j (by rw [hF.size]; rw [Lib.decDigits_length] at hj; exact hj))
    rw [Lib.decDigits_length] at h; exact h
  obtain ⟨os, eo⟩ := Lib.fin_at w (.cells Lib.zeros24 261) dk k 0; have hbel : Below w.heap.size w ((putRow (fun (b : UInt8) => Value.int .u8 (b.toNat : Int)) (w.alloc (.cells Lib.zeros24 261)) w.heap.size 0 dk).drewN k) := by rw [eo]; exact below_grow' w k os
  clear eo hF HF HN HT HH0; generalize (putRow (fun (b : UInt8) => Value.int .u8 (b.toNat : Int)) (w.alloc (.cells Lib.zeros24 261)) w.heap.size 0 dk).drewN k = W2 at *; go_wp2; go_ret; exact ⟨rfl, hbel⟩
def Tens (w : World) : Prop := ∀ (u : Nat) (W : World), u < 18446744073709551616 → Below w.heap.size w W →
  Calls Tryz.prog 213 #[.int .u64 (u : Nat), .int .i64 10] W fun e w' => e = .returned (sL (decDigits u)) ∧ Below W.heap.size W w'
theorem Tens.below {w w' : World} (h : Tens w) (hb : Below w.heap.size w w') : Tens w' := fun n W hn hb' => h n W hn (hb.trans (hb'.mono hb.size))
theorem tab_below {P : Program} {w w' : World} {name : String} {k : IntKind} {zs : List Int} (h : Lib.TabIs P w name k zs) (hb : Below w.heap.size w w') : Lib.TabIs P w' name k zs := by
  unfold Lib.TabIs World.var? at *
  cases hg : P.globalNamed name with
  | none => rw [hg] at h; cases h
  | some g =>
    rw [hg] at h; rw [← h]; simp only [Option.bind_some] at h ⊢
    have hlt : g < w.heap.size := by
      rcases Nat.lt_or_ge g w.heap.size with hl | hl
      · exact hl
      · simp [Array.getElem?_eq_none hl] at h
    simp [hb.block g hlt]
theorem fmt0_any {w : World} (u : Nat) (hu : u < 18446744073709551616) (htab : Lib.TabIs Tryz.prog w "internal/strconv.uint64pow10" .u64 Lib.pow10Tab) :
    Calls Tryz.prog 219 #[.int .u64 (u : Nat), .int .i64 10] w fun e w' => e = .returned (sL (decDigits u)) ∧ Below w.heap.size w w' := by
  by_cases h : u < 100
  · exact fmt_small h
  · exact fmt_big (by omega) hu htab
theorem tens_of {w : World} (h : Lib.TabIs Tryz.prog w "internal/strconv.uint64pow10" .u64 Lib.pow10Tab) : Tens w := fun u W hu hb => by
  have HF := Lib.hid (fmt0_any (w := W) u hu (tab_below h hb)); clear h hb hu; generalize sL (decDigits u) = V at *; go_enter Tryz.func213, Tryz.ntmps213
  go_wp2_with fail
  refine HF.out.mono ?_; rintro e w1 ⟨rfl, hb⟩; go_wp2; go_ret; exact ⟨rfl, hb⟩
theorem hp_of {w : World} {s p : ByteArray} {b : Bool} (h2 : Lib.hasPrefix s.data.toList p.data.toList = b) :
    Calls Tryz.prog 206 #[.string s, .string p] w fun e w' => e = .returned (.bool b) ∧ w' = w := by
  have := Tryz.strings_HasPrefix s p w; rw [h2] at this; exact this
set_option maxRecDepth 1000000 in
theorem rep1 {w : World} : Calls Tryz.prog 183 #[.string ⟨#[48]⟩, .int .i64 1] w fun e w' => e = .returned (.string ⟨#[48]⟩) ∧ w' = w := by
  go_enter Tryz.func183, Tryz.ntmps183; go_wp2; go_ret; exact ⟨rfl, rfl⟩
set_option maxRecDepth 1000000 in
theorem rep2 {w : World} : Calls Tryz.prog 183 #[.string ⟨#[48]⟩, .int .i64 2] w fun e w' => e = .returned (.string ⟨#[48, 48]⟩) ∧ w' = w := by
  have HM : Hid (∀ W : World, Calls Tryz.prog 205 #[.int .u64 1, .int .u64 2] W fun e w' => e = .returned (.tuple #[.int .u64 0, .int .u64 2]) ∧ w' = W) := Lib.hid (fun W => Tryz.bits_Mul 1 2 (by decide) (by decide) W); have HN : Hid (∀ (W : World) (s : ByteArray), Lib.hasPrefix s.data.toList [48] = false → Calls Tryz.prog 206 #[.string s, .string ⟨#[48]⟩] W fun e w' => e = .returned (.bool false) ∧ w' = W) := Lib.hid (fun W s h => hp_of h); have HY : Hid (∀ (W : World) (s : ByteArray), Lib.hasPrefix s.data.toList [48] = true → Calls Tryz.prog 206 #[.string s, .string ⟨#[48]⟩] W fun e w' => e = .returned (.bool true) ∧ w' = W) := Lib.hid (fun W s h => hp_of h); go_enter Tryz.func183, Tryz.ntmps183
  go_wp2_with fail
  refine (HM.out _).mono ?_; rintro e w1 ⟨rfl, rfl⟩
  go_wp2_with fail
  refine (HN.out _ _ (by decide)).mono ?_; rintro e w1 ⟨rfl, rfl⟩
  go_wp2_with fail
  refine (HN.out _ _ (by decide)).mono ?_; rintro e w1 ⟨rfl, rfl⟩
  go_wp2_with fail
  refine (HY.out _ _ (by decide)).mono ?_; rintro e w1 ⟨rfl, rfl⟩; go_wp2; go_ret; exact ⟨rfl, rfl⟩
set_option maxRecDepth 1000000 in
theorem rep3 {w : World} : Calls Tryz.prog 183 #[.string ⟨#[48]⟩, .int .i64 3] w fun e w' => e = .returned (.string ⟨#[48, 48, 48]⟩) ∧ w' = w := by
  have HM : Hid (∀ W : World, Calls Tryz.prog 205 #[.int .u64 1, .int .u64 3] W fun e w' => e = .returned (.tuple #[.int .u64 0, .int .u64 3]) ∧ w' = W) := Lib.hid (fun W => Tryz.bits_Mul 1 3 (by decide) (by decide) W); have HN : Hid (∀ (W : World) (s : ByteArray), Lib.hasPrefix s.data.toList [48] = false → Calls Tryz.prog 206 #[.string s, .string ⟨#[48]⟩] W fun e w' => e = .returned (.bool false) ∧ w' = W) := Lib.hid (fun W s h => hp_of h); have HY : Hid (∀ (W : World) (s : ByteArray), Lib.hasPrefix s.data.toList [48] = true → Calls Tryz.prog 206 #[.string s, .string ⟨#[48]⟩] W fun e w' => e = .returned (.bool true) ∧ w' = W) := Lib.hid (fun W s h => hp_of h); go_enter Tryz.func183, Tryz.ntmps183
  go_wp2_with fail
  refine (HM.out _).mono ?_; rintro e w1 ⟨rfl, rfl⟩
  go_wp2_with fail
  refine (HN.out _ _ (by decide)).mono ?_; rintro e w1 ⟨rfl, rfl⟩
  go_wp2_with fail
  refine (HN.out _ _ (by decide)).mono ?_; rintro e w1 ⟨rfl, rfl⟩
  go_wp2_with fail
  refine (HY.out _ _ (by decide)).mono ?_; rintro e w1 ⟨rfl, rfl⟩; go_wp2; go_ret; exact ⟨rfl, rfl⟩
set_option maxRecDepth 1000000 in
theorem rep4 {w : World} : Calls Tryz.prog 183 #[.string ⟨#[48]⟩, .int .i64 4] w fun e w' => e = .returned (.string ⟨#[48, 48, 48, 48]⟩) ∧ w' = w := by
  have HM : Hid (∀ W : World, Calls Tryz.prog 205 #[.int .u64 1, .int .u64 4] W fun e w' => e = .returned (.tuple #[.int .u64 0, .int .u64 4]) ∧ w' = W) := Lib.hid (fun W => Tryz.bits_Mul 1 4 (by decide) (by decide) W); have HN : Hid (∀ (W : World) (s : ByteArray), Lib.hasPrefix s.data.toList [48] = false → Calls Tryz.prog 206 #[.string s, .string ⟨#[48]⟩] W fun e w' => e = .returned (.bool false) ∧ w' = W) := Lib.hid (fun W s h => hp_of h); have HY : Hid (∀ (W : World) (s : ByteArray), Lib.hasPrefix s.data.toList [48] = true → Calls Tryz.prog 206 #[.string s, .string ⟨#[48]⟩] W fun e w' => e = .returned (.bool true) ∧ w' = W) := Lib.hid (fun W s h => hp_of h); go_enter Tryz.func183, Tryz.ntmps183
  go_wp2_with fail
  refine (HM.out _).mono ?_; rintro e w1 ⟨rfl, rfl⟩
  go_wp2_with fail
  refine (HN.out _ _ (by decide)).mono ?_; rintro e w1 ⟨rfl, rfl⟩
  go_wp2_with fail
  refine (HN.out _ _ (by decide)).mono ?_; rintro e w1 ⟨rfl, rfl⟩
  go_wp2_with fail
  refine (HY.out _ _ (by decide)).mono ?_; rintro e w1 ⟨rfl, rfl⟩; go_wp2; go_ret; exact ⟨rfl, rfl⟩
set_option maxRecDepth 1000000 in
theorem rep5 {w : World} : Calls Tryz.prog 183 #[.string ⟨#[48]⟩, .int .i64 5] w fun e w' => e = .returned (.string ⟨#[48, 48, 48, 48, 48]⟩) ∧ w' = w := by
  have HM : Hid (∀ W : World, Calls Tryz.prog 205 #[.int .u64 1, .int .u64 5] W fun e w' => e = .returned (.tuple #[.int .u64 0, .int .u64 5]) ∧ w' = W) := Lib.hid (fun W => Tryz.bits_Mul 1 5 (by decide) (by decide) W); have HN : Hid (∀ (W : World) (s : ByteArray), Lib.hasPrefix s.data.toList [48] = false → Calls Tryz.prog 206 #[.string s, .string ⟨#[48]⟩] W fun e w' => e = .returned (.bool false) ∧ w' = W) := Lib.hid (fun W s h => hp_of h); have HY : Hid (∀ (W : World) (s : ByteArray), Lib.hasPrefix s.data.toList [48] = true → Calls Tryz.prog 206 #[.string s, .string ⟨#[48]⟩] W fun e w' => e = .returned (.bool true) ∧ w' = W) := Lib.hid (fun W s h => hp_of h); go_enter Tryz.func183, Tryz.ntmps183
  go_wp2_with fail
  refine (HM.out _).mono ?_; rintro e w1 ⟨rfl, rfl⟩
  go_wp2_with fail
  refine (HN.out _ _ (by decide)).mono ?_; rintro e w1 ⟨rfl, rfl⟩
  go_wp2_with fail
  refine (HN.out _ _ (by decide)).mono ?_; rintro e w1 ⟨rfl, rfl⟩
  go_wp2_with fail
  refine (HY.out _ _ (by decide)).mono ?_; rintro e w1 ⟨rfl, rfl⟩; go_wp2; go_ret; exact ⟨rfl, rfl⟩
set_option maxRecDepth 1000000 in
theorem rep6 {w : World} : Calls Tryz.prog 183 #[.string ⟨#[48]⟩, .int .i64 6] w fun e w' => e = .returned (.string ⟨#[48, 48, 48, 48, 48, 48]⟩) ∧ w' = w := by
  have HM : Hid (∀ W : World, Calls Tryz.prog 205 #[.int .u64 1, .int .u64 6] W fun e w' => e = .returned (.tuple #[.int .u64 0, .int .u64 6]) ∧ w' = W) := Lib.hid (fun W => Tryz.bits_Mul 1 6 (by decide) (by decide) W); have HN : Hid (∀ (W : World) (s : ByteArray), Lib.hasPrefix s.data.toList [48] = false → Calls Tryz.prog 206 #[.string s, .string ⟨#[48]⟩] W fun e w' => e = .returned (.bool false) ∧ w' = W) := Lib.hid (fun W s h => hp_of h); have HY : Hid (∀ (W : World) (s : ByteArray), Lib.hasPrefix s.data.toList [48] = true → Calls Tryz.prog 206 #[.string s, .string ⟨#[48]⟩] W fun e w' => e = .returned (.bool true) ∧ w' = W) := Lib.hid (fun W s h => hp_of h); go_enter Tryz.func183, Tryz.ntmps183
  go_wp2_with fail
  refine (HM.out _).mono ?_; rintro e w1 ⟨rfl, rfl⟩
  go_wp2_with fail
  refine (HN.out _ _ (by decide)).mono ?_; rintro e w1 ⟨rfl, rfl⟩
  go_wp2_with fail
  refine (HN.out _ _ (by decide)).mono ?_; rintro e w1 ⟨rfl, rfl⟩
  go_wp2_with fail
  refine (HY.out _ _ (by decide)).mono ?_; rintro e w1 ⟨rfl, rfl⟩; go_wp2; go_ret; exact ⟨rfl, rfl⟩
set_option maxRecDepth 1000000 in
theorem rep7 {w : World} : Calls Tryz.prog 183 #[.string ⟨#[48]⟩, .int .i64 7] w fun e w' => e = .returned (.string ⟨#[48, 48, 48, 48, 48, 48, 48]⟩) ∧ w' = w := by
  have HM : Hid (∀ W : World, Calls Tryz.prog 205 #[.int .u64 1, .int .u64 7] W fun e w' => e = .returned (.tuple #[.int .u64 0, .int .u64 7]) ∧ w' = W) := Lib.hid (fun W => Tryz.bits_Mul 1 7 (by decide) (by decide) W); have HN : Hid (∀ (W : World) (s : ByteArray), Lib.hasPrefix s.data.toList [48] = false → Calls Tryz.prog 206 #[.string s, .string ⟨#[48]⟩] W fun e w' => e = .returned (.bool false) ∧ w' = W) := Lib.hid (fun W s h => hp_of h); have HY : Hid (∀ (W : World) (s : ByteArray), Lib.hasPrefix s.data.toList [48] = true → Calls Tryz.prog 206 #[.string s, .string ⟨#[48]⟩] W fun e w' => e = .returned (.bool true) ∧ w' = W) := Lib.hid (fun W s h => hp_of h); go_enter Tryz.func183, Tryz.ntmps183
  go_wp2_with fail
  refine (HM.out _).mono ?_; rintro e w1 ⟨rfl, rfl⟩
  go_wp2_with fail
  refine (HN.out _ _ (by decide)).mono ?_; rintro e w1 ⟨rfl, rfl⟩
  go_wp2_with fail
  refine (HN.out _ _ (by decide)).mono ?_; rintro e w1 ⟨rfl, rfl⟩
  go_wp2_with fail
  refine (HY.out _ _ (by decide)).mono ?_; rintro e w1 ⟨rfl, rfl⟩; go_wp2; go_ret; exact ⟨rfl, rfl⟩
set_option maxRecDepth 1000000 in
theorem rep8 {w : World} : Calls Tryz.prog 183 #[.string ⟨#[48]⟩, .int .i64 8] w fun e w' => e = .returned (.string ⟨#[48, 48, 48, 48, 48, 48, 48, 48]⟩) ∧ w' = w := by
  have HM : Hid (∀ W : World, Calls Tryz.prog 205 #[.int .u64 1, .int .u64 8] W fun e w' => e = .returned (.tuple #[.int .u64 0, .int .u64 8]) ∧ w' = W) := Lib.hid (fun W => Tryz.bits_Mul 1 8 (by decide) (by decide) W); have HN : Hid (∀ (W : World) (s : ByteArray), Lib.hasPrefix s.data.toList [48] = false → Calls Tryz.prog 206 #[.string s, .string ⟨#[48]⟩] W fun e w' => e = .returned (.bool false) ∧ w' = W) := Lib.hid (fun W s h => hp_of h); have HY : Hid (∀ (W : World) (s : ByteArray), Lib.hasPrefix s.data.toList [48] = true → Calls Tryz.prog 206 #[.string s, .string ⟨#[48]⟩] W fun e w' => e = .returned (.bool true) ∧ w' = W) := Lib.hid (fun W s h => hp_of h); go_enter Tryz.func183, Tryz.ntmps183
  go_wp2_with fail
  refine (HM.out _).mono ?_; rintro e w1 ⟨rfl, rfl⟩
  go_wp2_with fail
  refine (HN.out _ _ (by decide)).mono ?_; rintro e w1 ⟨rfl, rfl⟩
  go_wp2_with fail
  refine (HN.out _ _ (by decide)).mono ?_; rintro e w1 ⟨rfl, rfl⟩
  go_wp2_with fail
  refine (HY.out _ _ (by decide)).mono ?_; rintro e w1 ⟨rfl, rfl⟩; go_wp2; go_ret; exact ⟨rfl, rfl⟩
set_option maxRecDepth 1000000 in
theorem rep9 {w : World} : Calls Tryz.prog 183 #[.string ⟨#[48]⟩, .int .i64 9] w fun e w' => e = .returned (.string ⟨#[48, 48, 48, 48, 48, 48, 48, 48, 48]⟩) ∧ w' = w := by
  have HM : Hid (∀ W : World, Calls Tryz.prog 205 #[.int .u64 1, .int .u64 9] W fun e w' => e = .returned (.tuple #[.int .u64 0, .int .u64 9]) ∧ w' = W) := Lib.hid (fun W => Tryz.bits_Mul 1 9 (by decide) (by decide) W); have HN : Hid (∀ (W : World) (s : ByteArray), Lib.hasPrefix s.data.toList [48] = false → Calls Tryz.prog 206 #[.string s, .string ⟨#[48]⟩] W fun e w' => e = .returned (.bool false) ∧ w' = W) := Lib.hid (fun W s h => hp_of h); have HY : Hid (∀ (W : World) (s : ByteArray), Lib.hasPrefix s.data.toList [48] = true → Calls Tryz.prog 206 #[.string s, .string ⟨#[48]⟩] W fun e w' => e = .returned (.bool true) ∧ w' = W) := Lib.hid (fun W s h => hp_of h); go_enter Tryz.func183, Tryz.ntmps183
  go_wp2_with fail
  refine (HM.out _).mono ?_; rintro e w1 ⟨rfl, rfl⟩
  go_wp2_with fail
  refine (HN.out _ _ (by decide)).mono ?_; rintro e w1 ⟨rfl, rfl⟩
  go_wp2_with fail
  refine (HN.out _ _ (by decide)).mono ?_; rintro e w1 ⟨rfl, rfl⟩
  go_wp2_with fail
  refine (HY.out _ _ (by decide)).mono ?_; rintro e w1 ⟨rfl, rfl⟩; go_wp2; go_ret; exact ⟨rfl, rfl⟩
theorem rep_any {w : World} {n : Nat} (h1 : 1 ≤ n) (h9 : n ≤ 9) : Calls Tryz.prog 183 #[.string ⟨#[48]⟩, .int .i64 (n : Nat)] w fun e w' => e = .returned (sL (List.replicate n 48)) ∧ w' = w := by
  rcases (by omega : n = 1 ∨ n = 2 ∨ n = 3 ∨ n = 4 ∨ n = 5 ∨ n = 6 ∨ n = 7 ∨ n = 8 ∨ n = 9) with rfl | rfl | rfl | rfl | rfl | rfl | rfl | rfl | rfl
  · exact rep1
  · exact rep2
  · exact rep3
  · exact rep4
  · exact rep5
  · exact rep6
  · exact rep7
  · exact rep8
  · exact rep9
end Go.Proofs.YtngkolcpbgibcaaGreatDoor
namespace Go.Proofs.YtngkolcpbgibcaaGreatDoor
open Go.ChangeShapes Go.WideShapes Go.RowKit Go.Joins Go.Sort
section
variable {H : Type} {enc : TypeId × Value → H} {P : Program} {W : World} {base b0 : Nat} {sp : Nat → Bool} {held : Bool} {r : Reach} {v : Value} {d : DataW H} {p : List MemPlace}
end
theorem tab_of {d1 d2 : DataW Unit} {n1 n2 : String} {rest : List (String × DataW Unit)} {W : World} (hL : laidMet Tryz.prog ((n1, d1) :: (n2, d2) :: ("internal/strconv.uint64pow10", Lib.tabData .u64 Lib.pow10Tab) :: rest) W) : Lib.TabIs Tryz.prog W "internal/strconv.uint64pow10" .u64 Lib.pow10Tab :=
  Lib.tabIs_of_head (g := 6) (by kernel_rfl) (by kernel_rfl) Tryz.underlying267 Tryz.underlying117 (by kernel_rfl) (by kernel_rfl) hL.tail.tail
end Go.Proofs.YtngkolcpbgibcaaGreatDoor
namespace Go.Proofs.YtngkolcpbgibcaaGreatDoor
open Go.RowKit
def setBox : List (Nat × TypeId × Array Value) → Nat → Array Value → List (Nat × TypeId × Array Value)
  | [], _, _ => []
  | x :: l, 0, cs => (x.1, x.2.1, cs) :: l
  | x :: l, i + 1, cs => x :: setBox l i cs
def butBox : List (Nat × TypeId × Array Value) → Nat → List (Nat × TypeId × Array Value)
  | [], _ => []
  | _ :: l, 0 => l
  | x :: l, i + 1 => x :: butBox l i
section
variable {w W W' : World} {n g i : Nat} {T : TypeId} {bs bs' : List (Nat × TypeId × Array Value)} {cs z : Array Value} {vals : List Value}
theorem SB.made (h : SB w n bs W) (o : Obj) : SB w n bs (W.alloc o) := ⟨h.bel.alloc h.bel.size _, Nat.le_trans h.size (by simp), fun x hx => (h.bk x hx).alloc _⟩
theorem SB.some_ (h : SB w n bs W) (hs : ∀ x ∈ bs', x ∈ bs) : SB w n bs' W := ⟨h.bel, h.size, fun y hy => h.bk y (hs y hy)⟩
theorem SB.base (w : World) : SB w 0 [] w := ⟨Below.refl _ _, Nat.le_refl _, fun x hx => by cases hx⟩
theorem SB.box (h : SB w n bs W) {x : Nat × TypeId × Array Value} (hx : bs[i]? = some x) : Bk W x.1 x.2.1 x.2.2 := h.bk x (List.mem_of_getElem? hx)
theorem setBox_mem {bs : List (Nat × TypeId × Array Value)} {i : Nat} {y : Nat × TypeId × Array Value} (h : y ∈ setBox bs i cs) {x : Nat × TypeId × Array Value} (hx : bs[i]? = some x) : y = (x.1, x.2.1, cs) ∨ y ∈ butBox bs i := by
  induction bs generalizing i with
  | nil => cases hx
  | cons b l ih =>
    cases i with
    | zero =>
      simp only [List.getElem?_cons_zero, Option.some.injEq] at hx; subst hx; exact (List.mem_cons.1 h).imp id id
    | succ i =>
      simp only [List.getElem?_cons_succ] at hx
      rcases List.mem_cons.1 h with rfl | h
      · exact .inr (List.mem_cons_self ..)
      · exact (ih h hx).imp id (List.mem_cons_of_mem _)
theorem butBox_mem {bs : List (Nat × TypeId × Array Value)} {i : Nat} {y : Nat × TypeId × Array Value} (h : y ∈ butBox bs i) : y ∈ bs := by
  induction bs generalizing i with
  | nil => exact h
  | cons b l ih =>
    cases i with
    | zero => exact List.mem_cons_of_mem _ h
    | succ i =>
      rcases List.mem_cons.1 h with rfl | h
      · exact List.mem_cons_self ..
      · exact List.mem_cons_of_mem _ (ih h)
theorem SB.put1 (h : SB w n bs W) (hi : bs[i]? = some (g, T, cs)) (hg : w.heap.size ≤ g) (hne : ∀ x ∈ butBox bs i, x.1 ≠ g) (j : Nat) (u : Value) :
    SB w n (setBox bs i (cs.setIfInBounds j u)) (W.setCell ⟨g, j, none⟩ u) := by
  refine ⟨h.bel.setCell hg _, by have := h.size; simpa [World.setCell] using this, fun x hx => ?_⟩
  rcases setBox_mem hx hi with rfl | hx
  · exact (h.box hi).set_ j u
  · have hk := h.bk x (butBox_mem hx); have hn := hne x hx; unfold Bk at hk ⊢; rw [Below.heap_setCell W ⟨g, j, none⟩ u x.1 hn]; exact hk
theorem setBox_get {bs : List (Nat × TypeId × Array Value)} {i : Nat} (hi : bs[i]? = some (g, T, z)) : (setBox bs i cs)[i]? = some (g, T, cs) := by
  induction bs generalizing i with
  | nil => cases hi
  | cons b l ih =>
    cases i with
    | zero =>
      simp only [List.getElem?_cons_zero, Option.some.injEq] at hi; subst hi; rfl
    | succ i => exact ih hi
theorem setBox_two {bs : List (Nat × TypeId × Array Value)} {i : Nat} : setBox (setBox bs i z) i cs = setBox bs i cs := by
  induction bs generalizing i with
  | nil => rfl
  | cons b l ih =>
    cases i with
    | zero => rfl
    | succ i => simp only [setBox, ih]
theorem setBox_but {bs : List (Nat × TypeId × Array Value)} {i : Nat} : butBox (setBox bs i cs) i = butBox bs i := by
  induction bs generalizing i with
  | nil => rfl
  | cons b l ih =>
    cases i with
    | zero => rfl
    | succ i => simp only [setBox, butBox, ih]
theorem SB.put2 {a b : Value} (h : SB w n bs W) (hi : bs[i]? = some (g, T, #[a, b])) (hg : w.heap.size ≤ g) (hne : ∀ x ∈ butBox bs i, x.1 ≠ g) (u0 u1 : Value) :
    SB w n (setBox bs i #[u0, u1]) ((W.setCell ⟨g, 0, none⟩ u0).setCell ⟨g, 1, none⟩ u1) := by
  have := (h.put1 hi hg hne 0 u0).put1 (setBox_get hi) hg (by rw [setBox_but]; exact hne) 1 u1; rw [setBox_two] at this
  simpa using this
theorem SB.put6 {a0 a1 a2 a3 a4 a5 : Value} (h : SB w n bs W) (hi : bs[i]? = some (g, T, #[a0, a1, a2, a3, a4, a5])) (hg : w.heap.size ≤ g) (hne : ∀ x ∈ butBox bs i, x.1 ≠ g) (u0 u1 u2 u3 u4 u5 : Value) :
    SB w n (setBox bs i #[u0, u1, u2, u3, u4, u5]) ((((((W.setCell ⟨g, 0, none⟩ u0).setCell ⟨g, 1, none⟩ u1).setCell ⟨g, 2, none⟩ u2).setCell ⟨g, 3, none⟩ u3).setCell ⟨g, 4, none⟩ u4).setCell ⟨g, 5, none⟩ u5) := by
  have step : ∀ {W : World} {bs : List (Nat × TypeId × Array Value)} {z : Array Value} (j : Nat) (u : Value), SB w n (setBox bs i z) W → bs[i]? = some (g, T, #[a0, a1, a2, a3, a4, a5]) → (∀ x ∈ butBox bs i, x.1 ≠ g) →
      SB w n (setBox bs i (z.setIfInBounds j u)) (W.setCell ⟨g, j, none⟩ u) := by
    intro W bs z j u h hi hne; have := h.put1 (setBox_get hi) hg (by rw [setBox_but]; exact hne) j u
    rwa [setBox_two] at this
  have h1 := h.put1 hi hg hne 0 u0; have h6 := step 5 u5 (step 4 u4 (step 3 u3 (step 2 u2 (step 1 u1 h1 hi hne) hi hne) hi hne) hi hne) hi hne
  simpa using h6
inductive Stp where
  | new (T : TypeId) (z : Array Value)
  | put (i : Nat) (cs : Array Value)
def SX (w : World) (n : Nat) : List Stp → List Value → List (Nat × TypeId × Array Value) → World → Prop
  | _, [], bs, W => SB w n bs W
  | .new T z :: r, v :: vs, bs, W => ∃ g, v = .pointer (some ⟨g, 0, none⟩) ∧ w.heap.size + n ≤ g ∧ (∀ x ∈ bs, x.1 ≠ g) ∧ SX w n r vs ((g, T, z) :: bs) W
  | .put i cs :: r, _ :: vs, bs, W => SX w n r vs (setBox bs i cs) W
  | [], _ :: _, bs, W => SB w n bs W
def keepsB : List Stp → Nat → Bool
  | [], _ => true
  | .new _ _ :: r, i => keepsB r (i + 1)
  | .put j _ :: r, i => i != j && keepsB r i
theorem setBox_ne {bs : List (Nat × TypeId × Array Value)} {i j : Nat} (h : i ≠ j) : (setBox bs j cs)[i]? = bs[i]? := by
  induction bs generalizing i j with
  | nil => rfl
  | cons b l ih =>
    cases j with
    | zero =>
      cases i with
      | zero => exact absurd rfl h
      | succ i => rfl
    | succ j =>
      cases i with
      | zero => rfl
      | succ i => exact ih (by omega)
theorem SX.bk {st : List Stp} (h : SX w n st vals bs W) (i : Nat) {x : Nat × TypeId × Array Value} (hi : bs[i]? = some x) (hk : keepsB st i = true) : Bk W x.1 x.2.1 x.2.2 := by
  induction st generalizing vals bs i with
  | nil => cases vals <;> exact SB.box h hi
  | cons s r ih =>
    cases vals with
    | nil => cases s <;> exact SB.box h hi
    | cons v vs =>
      cases s with
      | new T z =>
        obtain ⟨g, _, _, _, h⟩ := h; exact ih h (i + 1) hi hk
      | put j c =>
        simp only [keepsB, Bool.and_eq_true, bne_iff_ne, ne_eq] at hk; exact ih h i (by rw [setBox_ne hk.1]; exact hi) hk.2
theorem SX.call {st : List Stp} (h : SX w n st vals bs W) (hb : Below W.heap.size W W') : SX w n st vals bs W' := by
  induction st generalizing vals bs with
  | nil => cases vals <;> exact SB.call h hb
  | cons s r ih =>
    cases vals with
    | nil => cases s <;> exact SB.call h hb
    | cons v vs =>
      cases s with
      | new T z =>
        obtain ⟨g, h1, h2, h3, h⟩ := h; exact ⟨g, h1, h2, h3, ih h⟩
      | put j c => exact ih (vals := vs) (bs := setBox bs j c) h
end
end Go.Proofs.YtngkolcpbgibcaaGreatDoor
namespace Go.Proofs.YtngkolcpbgibcaaGreatDoor
open Go.RowKit
set_option maxRecDepth 100000 in
theorem tw_nwa {w : World} {m : Int} {n : Nat} {D : List UInt8}
    (K1 : ∀ W : World, Calls Tryz.prog 63 #[.agg #[.int .i64 m, .int .i64 0]] W fun e w' => e = .returned (.int .i64 0) ∧ Below W.heap.size W w')
    (K2 : ∀ W : World, Calls Tryz.prog 88 #[.int .i64 m] W fun e w' => e = .returned (.agg #[.bool false, .int .u64 0, .int .u64 (n : Nat)]) ∧ Below W.heap.size W w')
    (K3 : ∀ W : World, Below w.heap.size w W → Calls Tryz.prog 213 #[.int .u64 (n : Nat), .int .i64 10] W fun e w' => e = .returned (sL D) ∧ Below W.heap.size W w')
    (_h1 : ¬ 0 < wrap64 (1 - (D.length : Int)))
    (hzz : D.length ≤ 100)
    (hD : 1 ≤ D.length)
    : Calls Tryz.prog 199 #[.agg #[.int .i64 m, .int .i64 0]] w fun e w' => e = .returned (.string (⟨D.toArray⟩ : ByteArray)) ∧ Below w.heap.size w w' := by
  have H1 := Lib.hid K1; have H2 := Lib.hid K2; have H3 := Lib.hid K3; clear K1 K2 K3; have HZ := Lib.hid hzz; clear hzz; unfold sL at *; have H0 := Lib.hid (sb1 w 30 #[.int .i64 m, .int .i64 0]); go_enter Tryz.func199, Tryz.ntmps199
  go_wp2_with fail
  refine (H1.out _).mono ?_; rintro e w1 ⟨rfl, hb⟩; have HB := Lib.hid (H0.out.call hb); clear hb H0; have k1 := HB.out.bk _ (.head _); have c0 := k1.cell 0; have c1 := k1.cell 1; clear k1
  go_wp2_with fail
  refine (H2.out _).mono ?_; rintro e w2 ⟨rfl, hb⟩; have HB2 := Lib.hid ((HB.out.call hb).alloc 119 #[.bool false, .int .u64 0, .int .u64 (n : Nat)]); clear hb HB c0 c1; have k1 := HB2.out.bk _ (.tail _ (.head _)); have c0 := k1.cell 0; have c1 := k1.cell 1; have k2 := HB2.out.bk _ (.head _); have d0 := k2.cell 0; have d1 := k2.cell 1; have d2 := k2.cell 2; clear k1 k2
  go_wp2_with fail
  refine (H3.out _ HB2.out.bel).mono ?_; rintro e w3 ⟨rfl, hb⟩; have HB3 := Lib.hid (HB2.out.call hb); clear hb HB2 c0 c1 d0 d1 d2; have k1 := HB3.out.bk _ (.tail _ (.head _)); have c0 := k1.cell 0; have c1 := k1.cell 1; have k2 := HB3.out.bk _ (.head _); have d0 := k2.cell 0; have d1 := k2.cell 1; have d2 := k2.cell 2; clear k1 k2; have hbel := HB3.out.bel; clear HB3; have hzz := HZ.out; have hD' : ¬ (D.length : Int) < 1 := by omega
  clear _h1; go_wp2; go_ret; exact ⟨rfl, hbel⟩
set_option maxRecDepth 100000 in
theorem tw_nwm {w : World} {m : Int} {n : Nat} {D : List UInt8}
    (K1 : ∀ W : World, Calls Tryz.prog 63 #[.agg #[.int .i64 m, .int .i64 0]] W fun e w' => e = .returned (.int .i64 0) ∧ Below W.heap.size W w')
    (K2 : ∀ W : World, Calls Tryz.prog 88 #[.int .i64 m] W fun e w' => e = .returned (.agg #[.bool true, .int .u64 0, .int .u64 (n : Nat)]) ∧ Below W.heap.size W w')
    (K3 : ∀ W : World, Below w.heap.size w W → Calls Tryz.prog 213 #[.int .u64 (n : Nat), .int .i64 10] W fun e w' => e = .returned (sL D) ∧ Below W.heap.size W w')
    (_h1 : ¬ 0 < wrap64 (1 - (D.length : Int)))
    (hzz : D.length ≤ 100)
    (hD : 1 ≤ D.length)
    : Calls Tryz.prog 199 #[.agg #[.int .i64 m, .int .i64 0]] w fun e w' => e = .returned (.string ((⟨#[45]⟩ : ByteArray) ++ (⟨D.toArray⟩ : ByteArray))) ∧ Below w.heap.size w w' := by
  have H1 := Lib.hid K1; have H2 := Lib.hid K2; have H3 := Lib.hid K3; clear K1 K2 K3; have HZ := Lib.hid hzz; clear hzz; unfold sL at *; have H0 := Lib.hid (sb1 w 30 #[.int .i64 m, .int .i64 0]); go_enter Tryz.func199, Tryz.ntmps199
  go_wp2_with fail
  refine (H1.out _).mono ?_; rintro e w1 ⟨rfl, hb⟩; have HB := Lib.hid (H0.out.call hb); clear hb H0; have k1 := HB.out.bk _ (.head _); have c0 := k1.cell 0; have c1 := k1.cell 1; clear k1
  go_wp2_with fail
  refine (H2.out _).mono ?_; rintro e w2 ⟨rfl, hb⟩; have HB2 := Lib.hid ((HB.out.call hb).alloc 119 #[.bool true, .int .u64 0, .int .u64 (n : Nat)]); clear hb HB c0 c1; have k1 := HB2.out.bk _ (.tail _ (.head _)); have c0 := k1.cell 0; have c1 := k1.cell 1; have k2 := HB2.out.bk _ (.head _); have d0 := k2.cell 0; have d1 := k2.cell 1; have d2 := k2.cell 2; clear k1 k2
  go_wp2_with fail
  refine (H3.out _ HB2.out.bel).mono ?_; rintro e w3 ⟨rfl, hb⟩; have HB3 := Lib.hid (HB2.out.call hb); clear hb HB2 c0 c1 d0 d1 d2; have k1 := HB3.out.bk _ (.tail _ (.head _)); have c0 := k1.cell 0; have c1 := k1.cell 1; have k2 := HB3.out.bk _ (.head _); have d0 := k2.cell 0; have d1 := k2.cell 1; have d2 := k2.cell 2; clear k1 k2; have hbel := HB3.out.bel; clear HB3; have hzz := HZ.out; have hD' : ¬ (D.length : Int) < 1 := by omega
  clear _h1; go_wp2; go_ret; exact ⟨rfl, hbel⟩
set_option maxRecDepth 100000 in
theorem tw_npa {w : World} {m : Int} {n s p : Nat} {D : List UInt8}
    (K1 : ∀ W : World, Calls Tryz.prog 63 #[.agg #[.int .i64 m, .int .i64 (s : Nat)]] W fun e w' => e = .returned (.int .i64 0) ∧ Below W.heap.size W w')
    (K2 : ∀ W : World, Calls Tryz.prog 88 #[.int .i64 m] W fun e w' => e = .returned (.agg #[.bool false, .int .u64 0, .int .u64 (n : Nat)]) ∧ Below W.heap.size W w')
    (K3 : ∀ W : World, Below w.heap.size w W → Calls Tryz.prog 213 #[.int .u64 (n : Nat), .int .i64 10] W fun e w' => e = .returned (sL D) ∧ Below W.heap.size W w')
    (h1 : ¬ 0 < wrap64 (wrap64 ((s : Int) + 1) - (D.length : Int)))
    (hs : (0 : Int) < (s : Nat)) (h2 : wrap64 ((D.length : Int) - (s : Int)) = (p : Nat)) (hp : p ≤ D.length)
    (hzz : D.length ≤ 100)
    : Calls Tryz.prog 199 #[.agg #[.int .i64 m, .int .i64 (s : Nat)]] w fun e w' => e = .returned (.string ((⟨D.toArray⟩ : ByteArray).extract 0 p ++ ⟨#[46]⟩ ++ (⟨D.toArray⟩ : ByteArray).extract p (⟨D.toArray⟩ : ByteArray).size)) ∧ Below w.heap.size w w' := by
  have H1 := Lib.hid K1; have H2 := Lib.hid K2; have H3 := Lib.hid K3; clear K1 K2 K3; have HZ := Lib.hid hzz; clear hzz; unfold sL at *; have H0 := Lib.hid (sb1 w 30 #[.int .i64 m, .int .i64 (s : Nat)]); go_enter Tryz.func199, Tryz.ntmps199
  go_wp2_with fail
  refine (H1.out _).mono ?_; rintro e w1 ⟨rfl, hb⟩; have HB := Lib.hid (H0.out.call hb); clear hb H0; have k1 := HB.out.bk _ (.head _); have c0 := k1.cell 0; have c1 := k1.cell 1; clear k1
  go_wp2_with fail
  refine (H2.out _).mono ?_; rintro e w2 ⟨rfl, hb⟩; have HB2 := Lib.hid ((HB.out.call hb).alloc 119 #[.bool false, .int .u64 0, .int .u64 (n : Nat)]); clear hb HB c0 c1; have k1 := HB2.out.bk _ (.tail _ (.head _)); have c0 := k1.cell 0; have c1 := k1.cell 1; have k2 := HB2.out.bk _ (.head _); have d0 := k2.cell 0; have d1 := k2.cell 1; have d2 := k2.cell 2; clear k1 k2
  go_wp2_with fail
  refine (H3.out _ HB2.out.bel).mono ?_; rintro e w3 ⟨rfl, hb⟩; have HB3 := Lib.hid (HB2.out.call hb); clear hb HB2 c0 c1 d0 d1 d2; have k1 := HB3.out.bk _ (.tail _ (.head _)); have c0 := k1.cell 0; have c1 := k1.cell 1; have k2 := HB3.out.bk _ (.head _); have d0 := k2.cell 0; have d1 := k2.cell 1; have d2 := k2.cell 2; clear k1 k2
  go_wp2_with fail
  obtain ⟨q, hq⟩ : ∃ q : ByteArray, (⟨D.toArray⟩ : ByteArray) = q := ⟨_, rfl⟩
  have HQ := Lib.hid hq; have hqs : q.size = D.length := by rw [← hq]; simp [ByteArray.size]
  have hq1 : p ≤ q.size := by omega
  have hq2 : (p : Int) ≤ (q.size : Int) := by omega
  have hq3 : q.size ≤ 100 := by have := HZ.out; omega
  rw [hq]; simp only [h2]; have hbel := HB3.out.bel; clear hq hqs h1 hs hp HZ HB3 h2 H1 H2 H3 c0 c1 d1 d2
  go_region
  all_goals
    go_wp2; go_ret; exact ⟨by rw [HQ.out]; rfl, hbel.drew⟩
set_option maxRecDepth 100000 in
theorem tw_npm {w : World} {m : Int} {n s p : Nat} {D : List UInt8}
    (K1 : ∀ W : World, Calls Tryz.prog 63 #[.agg #[.int .i64 m, .int .i64 (s : Nat)]] W fun e w' => e = .returned (.int .i64 0) ∧ Below W.heap.size W w')
    (K2 : ∀ W : World, Calls Tryz.prog 88 #[.int .i64 m] W fun e w' => e = .returned (.agg #[.bool true, .int .u64 0, .int .u64 (n : Nat)]) ∧ Below W.heap.size W w')
    (K3 : ∀ W : World, Below w.heap.size w W → Calls Tryz.prog 213 #[.int .u64 (n : Nat), .int .i64 10] W fun e w' => e = .returned (sL D) ∧ Below W.heap.size W w')
    (h1 : ¬ 0 < wrap64 (wrap64 ((s : Int) + 1) - (D.length : Int)))
    (hs : (0 : Int) < (s : Nat)) (h2 : wrap64 ((D.length : Int) - (s : Int)) = (p : Nat)) (hp : p ≤ D.length)
    (hzz : D.length ≤ 100)
    : Calls Tryz.prog 199 #[.agg #[.int .i64 m, .int .i64 (s : Nat)]] w fun e w' => e = .returned (.string ((⟨#[45]⟩ : ByteArray) ++ ((⟨D.toArray⟩ : ByteArray).extract 0 p ++ ⟨#[46]⟩ ++ (⟨D.toArray⟩ : ByteArray).extract p (⟨D.toArray⟩ : ByteArray).size))) ∧ Below w.heap.size w w' := by
  have H1 := Lib.hid K1; have H2 := Lib.hid K2; have H3 := Lib.hid K3; clear K1 K2 K3; have HZ := Lib.hid hzz; clear hzz; unfold sL at *; have H0 := Lib.hid (sb1 w 30 #[.int .i64 m, .int .i64 (s : Nat)]); go_enter Tryz.func199, Tryz.ntmps199
  go_wp2_with fail
  refine (H1.out _).mono ?_; rintro e w1 ⟨rfl, hb⟩; have HB := Lib.hid (H0.out.call hb); clear hb H0; have k1 := HB.out.bk _ (.head _); have c0 := k1.cell 0; have c1 := k1.cell 1; clear k1
  go_wp2_with fail
  refine (H2.out _).mono ?_; rintro e w2 ⟨rfl, hb⟩; have HB2 := Lib.hid ((HB.out.call hb).alloc 119 #[.bool true, .int .u64 0, .int .u64 (n : Nat)]); clear hb HB c0 c1; have k1 := HB2.out.bk _ (.tail _ (.head _)); have c0 := k1.cell 0; have c1 := k1.cell 1; have k2 := HB2.out.bk _ (.head _); have d0 := k2.cell 0; have d1 := k2.cell 1; have d2 := k2.cell 2; clear k1 k2
  go_wp2_with fail
  refine (H3.out _ HB2.out.bel).mono ?_; rintro e w3 ⟨rfl, hb⟩; have HB3 := Lib.hid (HB2.out.call hb); clear hb HB2 c0 c1 d0 d1 d2; have k1 := HB3.out.bk _ (.tail _ (.head _)); have c0 := k1.cell 0; have c1 := k1.cell 1; have k2 := HB3.out.bk _ (.head _); have d0 := k2.cell 0; have d1 := k2.cell 1; have d2 := k2.cell 2; clear k1 k2
  go_wp2_with fail
  obtain ⟨q, hq⟩ : ∃ q : ByteArray, (⟨D.toArray⟩ : ByteArray) = q := ⟨_, rfl⟩
  have HQ := Lib.hid hq; have hqs : q.size = D.length := by rw [← hq]; simp [ByteArray.size]
  have hq1 : p ≤ q.size := by omega
  have hq2 : (p : Int) ≤ (q.size : Int) := by omega
  have hq3 : q.size ≤ 100 := by have := HZ.out; omega
  rw [hq]; simp only [h2]; have hbel := HB3.out.bel; clear hq hqs h1 hs hp HZ HB3 h2 H1 H2 H3 c0 c1 d1 d2
  go_region
  all_goals
    go_wp2; go_ret; exact ⟨by rw [HQ.out]; rfl, hbel.drew⟩
set_option maxRecDepth 100000 in
theorem tw_lpa {w : World} {m : Int} {n s k p : Nat} {D Z : List UInt8}
    (K1 : ∀ W : World, Calls Tryz.prog 63 #[.agg #[.int .i64 m, .int .i64 (s : Nat)]] W fun e w' => e = .returned (.int .i64 0) ∧ Below W.heap.size W w')
    (K2 : ∀ W : World, Calls Tryz.prog 88 #[.int .i64 m] W fun e w' => e = .returned (.agg #[.bool false, .int .u64 0, .int .u64 (n : Nat)]) ∧ Below W.heap.size W w')
    (K3 : ∀ W : World, Below w.heap.size w W → Calls Tryz.prog 213 #[.int .u64 (n : Nat), .int .i64 10] W fun e w' => e = .returned (sL D) ∧ Below W.heap.size W w')
    (K4 : ∀ W : World, Calls Tryz.prog 183 #[.string ⟨#[48]⟩, .int .i64 (k : Nat)] W fun e w' => e = .returned (sL Z) ∧ w' = W)
    (h1 : wrap64 (wrap64 ((s : Int) + 1) - (D.length : Int)) = (k : Nat)) (h0 : (0 : Int) < (k : Nat)) (hsz : ¬ 9223372036854775807 < Z.length + D.length)
    (hs : (0 : Int) < (s : Nat)) (h2 : wrap64 ((Z.length : Int) + (D.length : Int) - (s : Int)) = (p : Nat)) (hp : p ≤ Z.length + D.length)
    (hzz : Z.length + D.length ≤ 100)
    : Calls Tryz.prog 199 #[.agg #[.int .i64 m, .int .i64 (s : Nat)]] w fun e w' => e = .returned (.string (((⟨Z.toArray⟩ : ByteArray) ++ ⟨D.toArray⟩).extract 0 p ++ ⟨#[46]⟩ ++ ((⟨Z.toArray⟩ : ByteArray) ++ ⟨D.toArray⟩).extract p ((⟨Z.toArray⟩ : ByteArray) ++ ⟨D.toArray⟩).size)) ∧ Below w.heap.size w w' := by
  have H1 := Lib.hid K1; have H2 := Lib.hid K2; have H3 := Lib.hid K3; have H4 := Lib.hid K4; clear K1 K2 K3 K4; have HZ := Lib.hid hzz; clear hzz; unfold sL at *; have H0 := Lib.hid (sb1 w 30 #[.int .i64 m, .int .i64 (s : Nat)]); go_enter Tryz.func199, Tryz.ntmps199
  go_wp2_with fail
  refine (H1.out _).mono ?_; rintro e w1 ⟨rfl, hb⟩; have HB := Lib.hid (H0.out.call hb); clear hb H0; have k1 := HB.out.bk _ (.head _); have c0 := k1.cell 0; have c1 := k1.cell 1; clear k1
  go_wp2_with fail
  refine (H2.out _).mono ?_; rintro e w2 ⟨rfl, hb⟩; have HB2 := Lib.hid ((HB.out.call hb).alloc 119 #[.bool false, .int .u64 0, .int .u64 (n : Nat)]); clear hb HB c0 c1; have k1 := HB2.out.bk _ (.tail _ (.head _)); have c0 := k1.cell 0; have c1 := k1.cell 1; have k2 := HB2.out.bk _ (.head _); have d0 := k2.cell 0; have d1 := k2.cell 1; have d2 := k2.cell 2; clear k1 k2
  go_wp2_with fail
  refine (H3.out _ HB2.out.bel).mono ?_; rintro e w3 ⟨rfl, hb⟩; have HB3 := Lib.hid (HB2.out.call hb); clear hb HB2 c0 c1 d0 d1 d2; have k1 := HB3.out.bk _ (.tail _ (.head _)); have c0 := k1.cell 0; have c1 := k1.cell 1; have k2 := HB3.out.bk _ (.head _); have d0 := k2.cell 0; have d1 := k2.cell 1; have d2 := k2.cell 2; clear k1 k2
  go_wp2_with fail
  refine (H4.out _).mono ?_; rintro e w4 ⟨rfl, rfl⟩
  go_wp2_with fail
  obtain ⟨q, hq⟩ : ∃ q : ByteArray, ((⟨Z.toArray⟩ : ByteArray) ++ ⟨D.toArray⟩) = q := ⟨_, rfl⟩
  have HQ := Lib.hid hq; have hqs : q.size = Z.length + D.length := by rw [← hq]; simp [ByteArray.size]
  have hq1 : p ≤ q.size := by omega
  have hq2 : (p : Int) ≤ (q.size : Int) := by omega
  have hq3 : q.size ≤ 100 := by have := HZ.out; omega
  rw [hq]; simp only [h2]; have hbel := HB3.out.bel; clear hq hqs h1 hs hp HZ HB3 h2 H1 H2 H3 c0 c1 d1 d2 h0 hsz H4
  go_region
  all_goals
    go_wp2; go_ret; exact ⟨by rw [HQ.out]; rfl, hbel.drew⟩
set_option maxRecDepth 100000 in
theorem tw_lpm {w : World} {m : Int} {n s k p : Nat} {D Z : List UInt8}
    (K1 : ∀ W : World, Calls Tryz.prog 63 #[.agg #[.int .i64 m, .int .i64 (s : Nat)]] W fun e w' => e = .returned (.int .i64 0) ∧ Below W.heap.size W w')
    (K2 : ∀ W : World, Calls Tryz.prog 88 #[.int .i64 m] W fun e w' => e = .returned (.agg #[.bool true, .int .u64 0, .int .u64 (n : Nat)]) ∧ Below W.heap.size W w')
    (K3 : ∀ W : World, Below w.heap.size w W → Calls Tryz.prog 213 #[.int .u64 (n : Nat), .int .i64 10] W fun e w' => e = .returned (sL D) ∧ Below W.heap.size W w')
    (K4 : ∀ W : World, Calls Tryz.prog 183 #[.string ⟨#[48]⟩, .int .i64 (k : Nat)] W fun e w' => e = .returned (sL Z) ∧ w' = W)
    (h1 : wrap64 (wrap64 ((s : Int) + 1) - (D.length : Int)) = (k : Nat)) (h0 : (0 : Int) < (k : Nat)) (hsz : ¬ 9223372036854775807 < Z.length + D.length)
    (hs : (0 : Int) < (s : Nat)) (h2 : wrap64 ((Z.length : Int) + (D.length : Int) - (s : Int)) = (p : Nat)) (hp : p ≤ Z.length + D.length)
    (hzz : Z.length + D.length ≤ 100)
    : Calls Tryz.prog 199 #[.agg #[.int .i64 m, .int .i64 (s : Nat)]] w fun e w' => e = .returned (.string ((⟨#[45]⟩ : ByteArray) ++ (((⟨Z.toArray⟩ : ByteArray) ++ ⟨D.toArray⟩).extract 0 p ++ ⟨#[46]⟩ ++ ((⟨Z.toArray⟩ : ByteArray) ++ ⟨D.toArray⟩).extract p ((⟨Z.toArray⟩ : ByteArray) ++ ⟨D.toArray⟩).size))) ∧ Below w.heap.size w w' := by
  have H1 := Lib.hid K1; have H2 := Lib.hid K2; have H3 := Lib.hid K3; have H4 := Lib.hid K4; clear K1 K2 K3 K4; have HZ := Lib.hid hzz; clear hzz; unfold sL at *; have H0 := Lib.hid (sb1 w 30 #[.int .i64 m, .int .i64 (s : Nat)]); go_enter Tryz.func199, Tryz.ntmps199
  go_wp2_with fail
  refine (H1.out _).mono ?_; rintro e w1 ⟨rfl, hb⟩; have HB := Lib.hid (H0.out.call hb); clear hb H0; have k1 := HB.out.bk _ (.head _); have c0 := k1.cell 0; have c1 := k1.cell 1; clear k1
  go_wp2_with fail
  refine (H2.out _).mono ?_; rintro e w2 ⟨rfl, hb⟩; have HB2 := Lib.hid ((HB.out.call hb).alloc 119 #[.bool true, .int .u64 0, .int .u64 (n : Nat)]); clear hb HB c0 c1; have k1 := HB2.out.bk _ (.tail _ (.head _)); have c0 := k1.cell 0; have c1 := k1.cell 1; have k2 := HB2.out.bk _ (.head _); have d0 := k2.cell 0; have d1 := k2.cell 1; have d2 := k2.cell 2; clear k1 k2
  go_wp2_with fail
  refine (H3.out _ HB2.out.bel).mono ?_; rintro e w3 ⟨rfl, hb⟩; have HB3 := Lib.hid (HB2.out.call hb); clear hb HB2 c0 c1 d0 d1 d2; have k1 := HB3.out.bk _ (.tail _ (.head _)); have c0 := k1.cell 0; have c1 := k1.cell 1; have k2 := HB3.out.bk _ (.head _); have d0 := k2.cell 0; have d1 := k2.cell 1; have d2 := k2.cell 2; clear k1 k2
  go_wp2_with fail
  refine (H4.out _).mono ?_; rintro e w4 ⟨rfl, rfl⟩
  go_wp2_with fail
  obtain ⟨q, hq⟩ : ∃ q : ByteArray, ((⟨Z.toArray⟩ : ByteArray) ++ ⟨D.toArray⟩) = q := ⟨_, rfl⟩
  have HQ := Lib.hid hq; have hqs : q.size = Z.length + D.length := by rw [← hq]; simp [ByteArray.size]
  have hq1 : p ≤ q.size := by omega
  have hq2 : (p : Int) ≤ (q.size : Int) := by omega
  have hq3 : q.size ≤ 100 := by have := HZ.out; omega
  rw [hq]; simp only [h2]; have hbel := HB3.out.bel; clear hq hqs h1 hs hp HZ HB3 h2 H1 H2 H3 c0 c1 d1 d2 h0 hsz H4
  go_region
  all_goals
    go_wp2; go_ret; exact ⟨by rw [HQ.out]; rfl, hbel.drew⟩
end Go.Proofs.YtngkolcpbgibcaaGreatDoor
namespace Go.Proofs.YtngkolcpbgibcaaGreatDoor
open Go.RowKit
def pD (l : List UInt8) : DR := refM l (isNeg l) (pre (isNeg l)).length
def unneg (l : List UInt8) : List UInt8 := if isNeg l then l.drop 1 else l
theorem neg_cut (l : List UInt8) : l = pre (isNeg l) ++ unneg l ∧ (isNeg l = false → (unneg l).head? ≠ some 45) ∧ Lib.hasPrefix l [45] = isNeg l ∧ Lib.trimPrefix l [45] = unneg l := by
  rcases l with _ | ⟨c, l⟩
  · exact ⟨rfl, by simp [unneg, isNeg], rfl, rfl⟩
  · by_cases hc : c = 45
    · subst hc; exact ⟨rfl, by simp [isNeg], rfl, rfl⟩
    · have h1 : isNeg (c :: l) = false := by simp [isNeg, hc]
      have h2 : Lib.hasPrefix (c :: l) [45] = false := by
        have : ¬ (45 : UInt8) = c := fun h => hc h.symm; simp [Lib.hasPrefix, List.isPrefixOf, this]
      have h3 : unneg (c :: l) = c :: l := by unfold unneg; rw [h1]; rfl
      refine ⟨by rw [h1, h3]; rfl, fun _ => by rw [h3]; simpa using hc, by rw [h1, h2], ?_⟩; unfold Lib.trimPrefix; rw [h2, h3]; rfl
theorem suf_last (t : List UInt8) : Lib.hasSuffix t [48] = (t.getLast? == some 48) := by
  rcases List.eq_nil_or_concat t with rfl | ⟨q, x, rfl⟩
  · rfl
  · simp only [Lib.hasSuffix, List.isSuffixOf, List.concat_eq_append, List.reverse_append, List.reverse_cons, List.reverse_nil, List.nil_append, List.cons_append, List.isPrefixOf, Bool.and_true, List.getLast?_append, List.getLast?_singleton, Option.some_or]
    by_cases h : x = 48
    · subst h; rfl
    · rw [show ((48 : UInt8) == x) = false from beq_eq_false_iff_ne.2 fun h' => h h'.symm]; exact (beq_eq_false_iff_ne.2 fun h' => h (Option.some.inj h')).symm
theorem gv_gq (l : List UInt8) : gv l = gq l := rfl
theorem asc_dig {l : List UInt8} (h : ∀ c ∈ l, dq c = true ∨ c = 46) : Asc ⟨l.toArray⟩ := by
  intro i hi; have hm : (⟨l.toArray⟩ : ByteArray)[i] ∈ l := List.getElem_mem (l := l) (n := i) (by simpa [ByteArray.size] using hi)
  rcases h _ hm with h | h
  · simp only [dq, Bool.and_eq_true, decide_eq_true_eq] at h; omega
  · rw [h]
    decide
theorem all_dq {l : List UInt8} (h : digsB l = true) : ∀ c ∈ l, dq c = true := by
  unfold digsB at h; rw [Bool.and_eq_true] at h; exact List.all_eq_true.1 h.1
theorem whole_dq {l : List UInt8} (h : wholeB l = true) : digsB l = true := by
  unfold wholeB at h; rw [Bool.and_eq_true] at h; exact h.1
theorem bsize (l : List UInt8) : (⟨l.toArray⟩ : ByteArray).size = l.length := by simp [ByteArray.size]
theorem blist (l : List UInt8) : (⟨l.toArray⟩ : ByteArray).toList = l := by rw [ByteArray.toList_eq]
theorem ex_left (w t : List UInt8) : (⟨(w ++ 46 :: t).toArray⟩ : ByteArray).extract 0 w.length = ⟨w.toArray⟩ := by
  apply ByteArray.ext; simp
theorem ex_right (w t : List UInt8) : (⟨(w ++ 46 :: t).toArray⟩ : ByteArray).extract (w.length + 1) (⟨(w ++ 46 :: t).toArray⟩ : ByteArray).size = ⟨t.toArray⟩ := by
  apply ByteArray.ext; rw [bsize, ByteArray.data_extract]; apply Array.toList_inj.1; rw [Array.toList_extract, List.length_append, List.length_cons]; simp only [List.extract_eq_take_drop]; rw [show w ++ 46 :: t = (w ++ [46]) ++ t by simp, show w.length + 1 = (w ++ [46]).length by simp, List.drop_left, List.take_of_length_le (by simp; omega)]
def ParseTo (s : ByteArray) (w : World) (r : DR) : Prop := Calls Tryz.prog 172 #[.string s] w fun e w' => e = .returned (dv r) ∧ Below w.heap.size w w'
theorem gather_c {l : List UInt8} (h : ∀ c ∈ l, dq c = true ∨ c = 46) (hl : l.length ≤ 100000000000) (W : World) :
    Calls Tryz.prog 197 #[.string ⟨l.toArray⟩] W fun e w' => e = .returned (.tuple #[.int .u64 (gN l : Nat), .bool (gB l)]) ∧ Below W.heap.size W w' :=
  gather_any (w := W) (asc_dig h) (by rw [bsize]; omega)
theorem parse_cases {l r u t : List UInt8} {b p : Bool} {w : World} (hl : l.length ≤ 10000000000) (hr : r.length ≤ 10000000000) (hu : u.length ≤ 10000000000) (ht : t.length ≤ 10000000000)
    (K1 : ∀ W : World, Calls Tryz.prog 193 #[.string ⟨l.toArray⟩, .string ⟨#[45]⟩] W fun e w' => e = .returned (.tuple #[.string ⟨r.toArray⟩, .bool b]) ∧ w' = W)
    (K2 : ∀ W : World, Calls Tryz.prog 194 #[.string ⟨r.toArray⟩, .string ⟨#[46]⟩] W fun e w' => e = .returned (.tuple #[.string ⟨u.toArray⟩, .string ⟨t.toArray⟩, .bool p]) ∧ Below W.heap.size W w')
    (hg : gq r = gq (u ++ t)) (hd : wholeB u = true → (p = true → digsB t = true) → ∀ c ∈ r, dq c = true ∨ c = 46) (hp : p = false → t = []) : ParseTo ⟨l.toArray⟩ w (parseP l b u t p) := by
  unfold ParseTo
  by_cases h0 : l = [45, 48]
  · subst h0; have : parseP [45, 48] b u t p = ⟨0, 0, 2⟩ := by unfold parseP; rw [if_pos (.inl rfl)]
    rw [this]
    cases p
    · have := pw_neg0_n K1 K2 (w := w); exact this
    · have := pw_neg0_p K1 K2 (w := w); exact this
  · have hs : ((⟨l.toArray⟩ : ByteArray).toList == [45, 48]) = false := by rw [blist]; simpa using h0
    have K3 : ∀ W : World, Calls Tryz.prog 195 #[.string ⟨u.toArray⟩] W fun e w' => e = .returned (.bool (wholeB u)) ∧ Below W.heap.size W w' := fun W => isWhole_l (by omega); have K4 : ∀ W : World, Calls Tryz.prog 196 #[.string ⟨t.toArray⟩] W fun e w' => e = .returned (.bool (digsB t)) ∧ Below W.heap.size W w' := fun W => isDigits_l (by omega)
    by_cases h1 : wholeB u = false
    · have : parseP l b u t p = ⟨0, 0, 2⟩ := by unfold parseP; rw [if_pos (.inr (.inl h1))]
      rw [this]; rw [h1] at K3
      cases p
      · exact pw_whole_n hs K1 K2 K3
      · exact pw_whole_p hs K1 K2 K3
    · have h1' : wholeB u = true := by simpa using h1
      rw [h1'] at K3
      by_cases h2 : p = true ∧ digsB t = false
      · have : parseP l b u t p = ⟨0, 0, 2⟩ := by unfold parseP; rw [if_pos (.inr (.inr h2))]
        rw [this]; obtain ⟨rfl, h2⟩ := h2; rw [h2] at K4; exact pw_digits hs K1 K2 K3 K4
      · have hdt : p = true → digsB t = true := fun hp => by
          cases h : digsB t
          · exact absurd ⟨hp, h⟩ h2
          · rfl
        have hall := hd h1' hdt
        have e0 : parseP l b u t p = numE b (gq r) t.length (t.getLast? == some 48) := by
          unfold parseP; rw [if_neg (by rintro (h | h | h); exact h0 h; exact h1 h; exact h2 h), hg]
        rw [e0]; have K5 := gather_c hall (by omega)
        by_cases h3 : gv r < 18446744073709551616
        · obtain ⟨e1, e2⟩ := gNB_yes h3; rw [e1, e2] at K5; rw [gv_gq] at h3 K5; generalize gq r = n at *
          have K6 : ∀ W : World, Calls Tryz.prog 162 #[.agg #[.bool b, .int .u64 0, .int .u64 (n : Nat)]] W fun e w' => e = .returned (.tuple #[.int .i64 (nrv b n), .bool (nrw b n)]) ∧ Below W.heap.size W w' := fun W => by
            have := narrow_any (w := W) (b := b) (n := n) (by omega); rw [wd_small h3] at this; exact this
          unfold numE
          by_cases h4 : n ≤ most b
          · have e3 : nrw b n = true := decide_eq_true h4; have e4 : nrv b n = sgn b n := if_pos h4; rw [e3, e4] at K6; rw [if_pos h4]
            by_cases h5 : 9 < t.length
            · rw [if_pos (.inl h5)]
              cases p
              · exact absurd (hp rfl) (by rintro rfl; simp at h5)
              · have hdt' := hdt rfl; rw [hdt'] at K4; exact pw_long_p hs K1 K2 K3 K4 K5 K6 (by rw [bsize]; exact h5)
            · have K7 : ∀ W : World, Calls Tryz.prog 198 #[.string ⟨t.toArray⟩, .string ⟨#[48]⟩] W fun e w' => e = .returned (.bool (t.getLast? == some 48)) ∧ w' = W := fun W => hs_of (by rw [bsize]; omega) (suf_last t)
              by_cases h6 : (t.getLast? == some 48) = true
              · rw [if_pos (.inr h6)]; rw [h6] at K7
                cases p
                · exact pw_nought_n hs K1 K2 K3 K5 K6 K7 (by rw [bsize]; omega)
                · have hdt' := hdt rfl; rw [hdt'] at K4; exact pw_nought_p hs K1 K2 K3 K4 K5 K6 K7 (by rw [bsize]; omega)
              · have h6' : (t.getLast? == some 48) = false := by simpa using h6
                rw [if_neg (by rintro (h | h); exact h5 h; exact h6 h)]; rw [h6'] at K7; unfold dv
                cases p
                · have := pw_good_n (w := w) hs K1 K2 K3 K5 K6 K7 (by rw [bsize]; omega); rw [bsize] at this; exact this
                · have hdt' := hdt rfl; rw [hdt'] at K4; have := pw_good_p (w := w) hs K1 K2 K3 K4 K5 K6 K7 (by rw [bsize]; omega); rw [bsize] at this; exact this
          · have e3 : nrw b n = false := decide_eq_false h4; rw [e3] at K6; rw [if_neg h4]
            cases p
            · exact pw_wide_n hs K1 K2 K3 K5 K6
            · have hdt' := hdt rfl; rw [hdt'] at K4; exact pw_wide_p hs K1 K2 K3 K4 K5 K6
        · obtain ⟨e1, e2⟩ := gNB_no h3; rw [e1, e2] at K5; rw [gv_gq] at h3; have h4 : ¬ gq r ≤ most b := by unfold most; split <;> omega
          unfold numE; rw [if_neg h4]
          cases p
          · exact pw_great_n hs K1 K2 K3 K5
          · have hdt' := hdt rfl; rw [hdt'] at K4; exact pw_great_p hs K1 K2 K3 K4 K5
theorem parse_l {w : World} (l : List UInt8) (hl : l.length ≤ 100000000) : ParseTo ⟨l.toArray⟩ w (pD l) := by
  obtain ⟨h1, h2, h3, h4⟩ := neg_cut l; have hlen : (unneg l).length ≤ l.length := by unfold unneg; split <;> simp
  have K1 : ∀ W : World, Calls Tryz.prog 193 #[.string ⟨l.toArray⟩, .string ⟨#[45]⟩] W fun e w' => e = .returned (.tuple #[.string ⟨(unneg l).toArray⟩, .bool (isNeg l)]) ∧ w' = W := fun W => cp_of h4 h3
  rcases point_cases (unneg l) with ⟨hno, hi⟩ | ⟨u, t, hr, hno, hi⟩
  · have : pD l = parseP l (isNeg l) (unneg l) [] false := ref_none h1 h2 hno; rw [this]; have K2 : ∀ W : World, Calls Tryz.prog 194 #[.string ⟨(unneg l).toArray⟩, .string ⟨#[46]⟩] W fun e w' => e = .returned (.tuple #[.string ⟨(unneg l).toArray⟩, .string ⟨([] : List UInt8).toArray⟩, .bool false]) ∧ Below W.heap.size W w' := fun W => cut_any (fun W => cut0_no hi) rfl; exact parse_cases (by omega) (by omega) (by omega) (by simp) K1 K2 (by rw [List.append_nil]) (fun hw _ c hc => .inl (all_dq (whole_dq hw) c hc)) (fun _ => rfl)
  · have : pD l = parseP l (isNeg l) u t true := ref_point (by rw [hr] at h1; exact h1) hno; rw [this]; have hlt : u.length + 1 + t.length ≤ 100000000 := by rw [hr] at hlen; simp at hlen; omega
    rw [hr] at K1
    have K2 : ∀ W : World, Calls Tryz.prog 194 #[.string ⟨(u ++ 46 :: t).toArray⟩, .string ⟨#[46]⟩] W fun e w' => e = .returned (.tuple #[.string ⟨u.toArray⟩, .string ⟨t.toArray⟩, .bool true]) ∧ Below W.heap.size W w' := fun W => by
      have := fun W => cut0_yes (w := W) (s := ⟨(u ++ 46 :: t).toArray⟩) (i := u.length) (by rw [hr] at hi; exact hi) (by rw [bsize, List.length_append, List.length_cons]; omega) (by rw [bsize, List.length_append, List.length_cons]; omega); rw [ex_left, ex_right] at this; exact cut_any this rfl
    refine parse_cases (by omega) (by simp; omega) (by omega) (by omega) K1 K2 (gq_point u t) (fun hw hp c hc => ?_) (fun h => by cases h)
    rcases List.mem_append.1 hc with h | h
    · exact .inl (all_dq (whole_dq hw) c h)
    · rcases List.mem_cons.1 h with h | h
      · exact .inr h
      · exact .inl (all_dq (hp rfl) c h)
end Go.Proofs.YtngkolcpbgibcaaGreatDoor
namespace Go.Proofs.YtngkolcpbgibcaaGreatDoor
open Go.RowKit
theorem ba_app (l m : List UInt8) : (⟨l.toArray⟩ : ByteArray) ++ (⟨m.toArray⟩ : ByteArray) = ⟨(l ++ m).toArray⟩ := by
  apply ByteArray.ext; simp
theorem ba_take (l : List UInt8) (p : Nat) : (⟨l.toArray⟩ : ByteArray).extract 0 p = ⟨(l.take p).toArray⟩ := by
  apply ByteArray.ext; simp
theorem ba_drop (l : List UInt8) (p : Nat) : (⟨l.toArray⟩ : ByteArray).extract p (⟨l.toArray⟩ : ByteArray).size = ⟨(l.drop p).toArray⟩ := by
  apply ByteArray.ext; rw [bsize, ByteArray.data_extract]; apply Array.toList_inj.1; rw [Array.toList_extract, List.extract_eq_take_drop, List.take_of_length_le (by simp)]
theorem dec_len {n : Nat} (h : n < 18446744073709551616) : 1 ≤ (Lib.decDigits n).length ∧ (Lib.decDigits n).length ≤ 20 := by
  by_cases h0 : n = 0
  · subst h0; rw [decDigits_0]; simp
  · rw [decDigits_digs n n (Nat.le_refl _) (by omega), List.length_reverse, List.length_map]; have h1 : (digs n).length ≤ 20 := digs_len.2 (by omega); rw [digs_pos (by omega)] at *; simp only [List.length_cons] at *; omega
theorem w64 {x : Int} (h0 : -9223372036854775808 ≤ x) (h1 : x ≤ 9223372036854775807) : wrap64 x = x := IntWalk.wrap64_in _ ⟨h0, h1⟩
theorem text_any {w : World} (HT : Tens w) {m : Int} {s : Nat} (h : Gd m s) :
    Calls Tryz.prog 199 #[.agg #[.int .i64 m, .int .i64 (s : Nat)]] w fun e w' => e = .returned (sL (decTx m s)) ∧ Below w.heap.size w w' := by
  have hm0 := h.lo; have hm1 := h.hi; have hs9 := h.s9; have hn : m.natAbs < 18446744073709551616 := by omega
  have K1 : ∀ W : World, Calls Tryz.prog 63 #[.agg #[.int .i64 m, .int .i64 (s : Nat)]] W fun e w' => e = .returned (.int .i64 0) ∧ Below W.heap.size W w' := fun W => by
    have := check_any (w := W) (m := m) (s := (s : Int)); rw [h.ck] at this; exact this
  have K2 : ∀ W : World, Calls Tryz.prog 88 #[.int .i64 m] W fun e w' => e = .returned (.agg #[.bool (decide (m < 0)), .int .u64 0, .int .u64 (m.natAbs : Nat)]) ∧ Below W.heap.size W w' := fun W => by
    have := widen_any (w := W) hm0 hm1; rw [wd_small hn] at this; exact this
  have K3 : ∀ W : World, Below w.heap.size w W → Calls Tryz.prog 213 #[.int .u64 (m.natAbs : Nat), .int .i64 10] W fun e w' => e = .returned (sL (Lib.decDigits m.natAbs)) ∧ Below W.heap.size W w' := fun W hb => HT _ W hn hb; obtain ⟨hd1, hd20⟩ := dec_len hn; have hpad := prog_pad m.natAbs s; have hplen := padded_len m.natAbs s
  have hll : (padded m.natAbs s).length = (s + 1 - (Lib.decDigits m.natAbs).length) + (Lib.decDigits m.natAbs).length := by
    have := congrArg List.length hpad; simp only [List.length_append, List.length_replicate, List.length_reverse, List.length_map] at this; omega
  clear h HT; have e1 : wrap64 ((s : Int) + 1) = (s : Int) + 1 := w64 (by omega) (by omega)
  by_cases hlack : 0 < s + 1 - (Lib.decDigits m.natAbs).length
  · have K4 : ∀ W : World, Calls Tryz.prog 183 #[.string ⟨#[48]⟩, .int .i64 ((s + 1 - (Lib.decDigits m.natAbs).length : Nat) : Int)] W fun e w' => e = .returned (sL (List.replicate (s + 1 - (Lib.decDigits m.natAbs).length) 48)) ∧ w' = W := fun W => rep_any hlack (by omega); have hs0 : (0 : Int) < (s : Nat) := by omega
    have hzl : (List.replicate (s + 1 - (Lib.decDigits m.natAbs).length) (48 : UInt8)).length = s + 1 - (Lib.decDigits m.natAbs).length := List.length_replicate; have h1 : wrap64 (wrap64 ((s : Int) + 1) - ((Lib.decDigits m.natAbs).length : Int)) = ((s + 1 - (Lib.decDigits m.natAbs).length : Nat) : Int) := by rw [e1, w64 (by omega) (by omega)]; omega
    have h2 : wrap64 (((List.replicate (s + 1 - (Lib.decDigits m.natAbs).length) (48 : UInt8)).length : Int) + ((Lib.decDigits m.natAbs).length : Int) - (s : Int)) = (((padded m.natAbs s).length - s : Nat) : Int) := by rw [hzl, w64 (by omega) (by omega)]; omega
    have key : ((⟨(List.replicate (s + 1 - (Lib.decDigits m.natAbs).length) (48 : UInt8)).toArray⟩ : ByteArray) ++ ⟨(Lib.decDigits m.natAbs).toArray⟩) = ⟨(((padded m.natAbs s).map bt).reverse).toArray⟩ := by rw [ba_app, hpad]
    have fin : (⟨(((padded m.natAbs s).map bt).reverse).toArray⟩ : ByteArray).extract 0 ((padded m.natAbs s).length - s) ++ ⟨#[46]⟩ ++ (⟨(((padded m.natAbs s).map bt).reverse).toArray⟩ : ByteArray).extract ((padded m.natAbs s).length - s) (⟨(((padded m.natAbs s).map bt).reverse).toArray⟩ : ByteArray).size = ⟨(body (padded m.natAbs s) s).toArray⟩ := by
      rw [ba_take, ba_drop, show (⟨#[46]⟩ : ByteArray) = ⟨([46] : List UInt8).toArray⟩ from rfl, ba_app, ba_app, prog_point hplen (by omega)]
    unfold decTx
    by_cases hneg : m < 0
    · rw [show decide (m < 0) = true from decide_eq_true hneg] at K2; refine (tw_lpm K1 K2 K3 K4 h1 (by omega) (by omega) hs0 h2 (by omega) (by omega)).mono ?_; rintro e w' ⟨rfl, hb⟩; refine ⟨?_, hb⟩; rw [key, fin, if_pos hneg, show (⟨#[45]⟩ : ByteArray) = ⟨([45] : List UInt8).toArray⟩ from rfl, ba_app]; rfl
    · rw [show decide (m < 0) = false from decide_eq_false hneg] at K2; refine (tw_lpa K1 K2 K3 K4 h1 (by omega) (by omega) hs0 h2 (by omega) (by omega)).mono ?_; rintro e w' ⟨rfl, hb⟩; refine ⟨?_, hb⟩; rw [key, fin, if_neg hneg]; rfl
  · have hk0 : s + 1 - (Lib.decDigits m.natAbs).length = 0 := by omega
    rw [hk0, List.replicate_zero, List.nil_append] at hpad; rw [hk0, Nat.zero_add] at hll; have key : (⟨(Lib.decDigits m.natAbs).toArray⟩ : ByteArray) = ⟨(((padded m.natAbs s).map bt).reverse).toArray⟩ := by rw [hpad]
    unfold decTx
    by_cases hs : s = 0
    · subst hs; have h1 : ¬ 0 < wrap64 (1 - ((Lib.decDigits m.natAbs).length : Int)) := by rw [w64 (by omega) (by omega)]; omega
      have fin : (⟨(((padded m.natAbs 0).map bt).reverse).toArray⟩ : ByteArray) = ⟨(body (padded m.natAbs 0) 0).toArray⟩ := by rw [prog_whole]
      by_cases hneg : m < 0
      · rw [show decide (m < 0) = true from decide_eq_true hneg] at K2; refine (tw_nwm K1 K2 K3 h1 (by omega) (by omega)).mono ?_; rintro e w' ⟨rfl, hb⟩; refine ⟨?_, hb⟩; rw [key, fin, if_pos hneg, show (⟨#[45]⟩ : ByteArray) = ⟨([45] : List UInt8).toArray⟩ from rfl, ba_app]; rfl
      · rw [show decide (m < 0) = false from decide_eq_false hneg] at K2; refine (tw_nwa K1 K2 K3 h1 (by omega) (by omega)).mono ?_; rintro e w' ⟨rfl, hb⟩; refine ⟨?_, hb⟩; rw [key, fin, if_neg hneg]; rfl
    · have hs0 : (0 : Int) < (s : Nat) := by omega
      have h1 : ¬ 0 < wrap64 (wrap64 ((s : Int) + 1) - ((Lib.decDigits m.natAbs).length : Int)) := by rw [e1, w64 (by omega) (by omega)]; omega
      have h2 : wrap64 (((Lib.decDigits m.natAbs).length : Int) - (s : Int)) = (((padded m.natAbs s).length - s : Nat) : Int) := by rw [w64 (by omega) (by omega)]; omega
      have fin : (⟨(((padded m.natAbs s).map bt).reverse).toArray⟩ : ByteArray).extract 0 ((padded m.natAbs s).length - s) ++ ⟨#[46]⟩ ++ (⟨(((padded m.natAbs s).map bt).reverse).toArray⟩ : ByteArray).extract ((padded m.natAbs s).length - s) (⟨(((padded m.natAbs s).map bt).reverse).toArray⟩ : ByteArray).size = ⟨(body (padded m.natAbs s) s).toArray⟩ := by
        rw [ba_take, ba_drop, show (⟨#[46]⟩ : ByteArray) = ⟨([46] : List UInt8).toArray⟩ from rfl, ba_app, ba_app, prog_point hplen (by omega)]
      by_cases hneg : m < 0
      · rw [show decide (m < 0) = true from decide_eq_true hneg] at K2; refine (tw_npm K1 K2 K3 h1 hs0 h2 (by omega) (by omega)).mono ?_; rintro e w' ⟨rfl, hb⟩; refine ⟨?_, hb⟩; rw [key, fin, if_pos hneg, show (⟨#[45]⟩ : ByteArray) = ⟨([45] : List UInt8).toArray⟩ from rfl, ba_app]; rfl
      · rw [show decide (m < 0) = false from decide_eq_false hneg] at K2; refine (tw_npa K1 K2 K3 h1 hs0 h2 (by omega) (by omega)).mono ?_; rintro e w' ⟨rfl, hb⟩; refine ⟨?_, hb⟩; rw [key, fin, if_neg hneg]; rfl
end Go.Proofs.YtngkolcpbgibcaaGreatDoor
