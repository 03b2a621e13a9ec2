/- le.U8, le.U16 by their contracts. Condition: the bytes read as such. -/
import Derived.Test.YtllcecnkbndokaaGreatDoorNum
namespace Go.Proofs.YtllcecnkbndokaaGreatDoor
open Go.RowKit

theorem two_below (w : World) (o o' : Obj) : Below w.heap.size w ((w.alloc o).alloc o') := ((Below.refl w.heap.size w).alloc (Nat.le_refl _) _).alloc (by simp) _

theorem num_lt {l : List UInt8} {k m : Nat} (h : l.length ≤ k) (hm : 256 ^ k ≤ m) : numN l < m :=
  Nat.lt_of_lt_of_le (numN_lt l) (Nat.le_trans (Nat.pow_le_pow_right (by omega) h) hm)

theorem Rd.drew {w : World} {B k n : Nat} {A : Option Addr} {xs : List Value} (h : Rd w B k A n xs) : Rd w.drew B k A n xs := ⟨h.len, h.at_⟩
theorem Rd.alloc {w : World} {B k n : Nat} {A : Option Addr} {xs : List Value} (h : Rd w B k A n xs) (hB : B ≤ w.heap.size) (o : Obj) : Rd (w.alloc o) B k A n xs := h.belowMono ((Below.refl w.heap.size w).alloc (Nat.le_refl _) o) hB

set_option maxHeartbeats 1000000 in
theorem u8_any {w : World} {B n c : Nat} {at_ : Int} {A : Option Addr} {l : List UInt8} (h : Rd w B 1 A n (l.map bv)) (hnc : n ≤ c) (hn : n ≤ 1000000000000000000) (hB : B ≤ w.heap.size) :
    Calls Tryz.prog 110 #[.agg #[.slice A n c, .int .i64 at_]] w fun e w' => e = .returned (.tuple #[.int .i64 ((numN (tkL l at_ 1) : Nat)), .agg #[.slice A n c, .int .i64 (tkAt at_ 1 n)], .int .i64 (tkE at_ 1 n)]) ∧ Below w.heap.size w w' := by
  have hlen : (tkL l at_ 1).length ≤ 1 := tkL_len l at_ 1
  have hT := take_any (k := 1) (at_ := at_) (h.belowMono (two_below w (.cells #[.slice A n c, .int .i64 at_] 99) (.cells #[.slice none 0 0, .int .i64 0] 99)) hB) hnc hn
  have hlt : numN (tkL l at_ 1) < 256 := num_lt hlen (by decide)
  have hw : IntKind.i64.wrap ((numN (tkL l at_ 1) : Nat) : Int) = (numN (tkL l at_ 1) : Nat) := IntWalk.i64_in _ (by omega)
  generalize tkL l at_ 1 = L at *
  generalize tkAt at_ 1 n = at1 at *
  generalize tkE at_ 1 n = e1 at *
  have HT := Lib.hid hT
  have HW := Lib.hid hw
  clear hw
  clear hT
  go_enter Tryz.func110, Tryz.ntmps110
  go_wp2_with fail
  refine HT.out.mono ?_
  rintro e w1 ⟨A', c', rfl, hc', hr, hb1⟩
  obtain ⟨k1, k2, hb', s1⟩ := two_boxes hb1
  have hr1 := hr.belowMono hb1 (by simp; omega)
  go_wp2
  have k2' := k2.alloc (.cells #[.slice A n c, .int .i64 at1] 99)
  have k3 := Bk.new w1 99 #[.slice A n c, .int .i64 at1]
  have hr2 := (hr1.alloc (by omega) (.cells #[.slice A n c, .int .i64 at1] 99)).drew
  have hbW := hb'.alloc hb'.size (.cells #[.slice A n c, .int .i64 at1] 99)
  generalize w1.alloc (.cells #[.slice A n c, .int .i64 at1] 99) = W at *
  have f0 := k3.cell 0
  have f1 := k3.cell 1
  have d0 := k2'.cell 0
  have d1 := k2'.cell 1
  have z0 := k2'.frozen 0
  have z1 := k2'.frozen 1
  have hwo := HW.out
  go_region_with ((go_at_call 68; refine (number_any hr2 (by omega)).mono ?_; rintro e w2 ⟨rfl, rfl⟩))
  all_goals
    go_wp2
    exact bodyPost_ret (v := .tuple #[.int .i64 ((numN L : Nat)), .agg #[.slice A n c, .int .i64 at1], .int .i64 e1]) (by simp [results, Tryz.results110, go_sem, d0, d1]) rfl ⟨rfl, ((hbW.setCell (by simp) _).setCell (by simp) _).drew⟩

set_option maxHeartbeats 1000000 in
theorem u16_any {w : World} {B n c : Nat} {at_ : Int} {A : Option Addr} {l : List UInt8} (h : Rd w B 1 A n (l.map bv)) (hnc : n ≤ c) (hn : n ≤ 1000000000000000000) (hB : B ≤ w.heap.size) :
    Calls Tryz.prog 101 #[.agg #[.slice A n c, .int .i64 at_]] w fun e w' => e = .returned (.tuple #[.int .i64 ((numN (tkL l at_ 2) : Nat)), .agg #[.slice A n c, .int .i64 (tkAt at_ 2 n)], .int .i64 (tkE at_ 2 n)]) ∧ Below w.heap.size w w' := by
  have hlen : (tkL l at_ 2).length ≤ 2 := tkL_len l at_ 2
  have hT := take_any (k := 2) (at_ := at_) (h.belowMono (two_below w (.cells #[.slice A n c, .int .i64 at_] 99) (.cells #[.slice none 0 0, .int .i64 0] 99)) hB) hnc hn
  have hlt : numN (tkL l at_ 2) < 65536 := num_lt hlen (by decide)
  have hw : IntKind.i64.wrap ((numN (tkL l at_ 2) : Nat) : Int) = (numN (tkL l at_ 2) : Nat) := IntWalk.i64_in _ (by omega)
  generalize tkL l at_ 2 = L at *
  generalize tkAt at_ 2 n = at1 at *
  generalize tkE at_ 2 n = e1 at *
  have HT := Lib.hid hT
  have HW := Lib.hid hw
  clear hw
  clear hT
  go_enter Tryz.func101, Tryz.ntmps101
  go_wp2_with fail
  refine HT.out.mono ?_
  rintro e w1 ⟨A', c', rfl, hc', hr, hb1⟩
  obtain ⟨k1, k2, hb', s1⟩ := two_boxes hb1
  have hr1 := hr.belowMono hb1 (by simp; omega)
  go_wp2
  have k2' := k2.alloc (.cells #[.slice A n c, .int .i64 at1] 99)
  have k3 := Bk.new w1 99 #[.slice A n c, .int .i64 at1]
  have hr2 := (hr1.alloc (by omega) (.cells #[.slice A n c, .int .i64 at1] 99)).drew
  have hbW := hb'.alloc hb'.size (.cells #[.slice A n c, .int .i64 at1] 99)
  generalize w1.alloc (.cells #[.slice A n c, .int .i64 at1] 99) = W at *
  have f0 := k3.cell 0
  have f1 := k3.cell 1
  have d0 := k2'.cell 0
  have d1 := k2'.cell 1
  have z0 := k2'.frozen 0
  have z1 := k2'.frozen 1
  have hwo := HW.out
  go_region_with ((go_at_call 68; refine (number_any hr2 (by omega)).mono ?_; rintro e w2 ⟨rfl, rfl⟩))
  all_goals
    go_wp2
    exact bodyPost_ret (v := .tuple #[.int .i64 ((numN L : Nat)), .agg #[.slice A n c, .int .i64 at1], .int .i64 e1]) (by simp [results, Tryz.results101, go_sem, d0, d1]) rfl ⟨rfl, ((hbW.setCell (by simp) _).setCell (by simp) _).drew⟩

set_option maxHeartbeats 1000000 in
theorem u32_any {w : World} {B n c : Nat} {at_ : Int} {A : Option Addr} {l : List UInt8} (h : Rd w B 1 A n (l.map bv)) (hnc : n ≤ c) (hn : n ≤ 1000000000000000000) (hB : B ≤ w.heap.size) :
    Calls Tryz.prog 52 #[.agg #[.slice A n c, .int .i64 at_]] w fun e w' => e = .returned (.tuple #[.int .i64 ((numN (tkL l at_ 4) : Nat)), .agg #[.slice A n c, .int .i64 (tkAt at_ 4 n)], .int .i64 (tkE at_ 4 n)]) ∧ Below w.heap.size w w' := by
  have hlen : (tkL l at_ 4).length ≤ 4 := tkL_len l at_ 4
  have hT := take_any (k := 4) (at_ := at_) (h.belowMono (two_below w (.cells #[.slice A n c, .int .i64 at_] 99) (.cells #[.slice none 0 0, .int .i64 0] 99)) hB) hnc hn
  have hlt : numN (tkL l at_ 4) < 4294967296 := num_lt hlen (by decide)
  have hw : IntKind.i64.wrap ((numN (tkL l at_ 4) : Nat) : Int) = (numN (tkL l at_ 4) : Nat) := IntWalk.i64_in _ (by omega)
  generalize tkL l at_ 4 = L at *
  generalize tkAt at_ 4 n = at1 at *
  generalize tkE at_ 4 n = e1 at *
  have HT := Lib.hid hT
  have HW := Lib.hid hw
  clear hw
  clear hT
  go_enter Tryz.func52, Tryz.ntmps52
  go_wp2_with fail
  refine HT.out.mono ?_
  rintro e w1 ⟨A', c', rfl, hc', hr, hb1⟩
  obtain ⟨k1, k2, hb', s1⟩ := two_boxes hb1
  have hr1 := hr.belowMono hb1 (by simp; omega)
  go_wp2
  have k2' := k2.alloc (.cells #[.slice A n c, .int .i64 at1] 99)
  have k3 := Bk.new w1 99 #[.slice A n c, .int .i64 at1]
  have hr2 := (hr1.alloc (by omega) (.cells #[.slice A n c, .int .i64 at1] 99)).drew
  have hbW := hb'.alloc hb'.size (.cells #[.slice A n c, .int .i64 at1] 99)
  generalize w1.alloc (.cells #[.slice A n c, .int .i64 at1] 99) = W at *
  have f0 := k3.cell 0
  have f1 := k3.cell 1
  have d0 := k2'.cell 0
  have d1 := k2'.cell 1
  have z0 := k2'.frozen 0
  have z1 := k2'.frozen 1
  have hwo := HW.out
  go_region_with ((go_at_call 68; refine (number_any hr2 (by omega)).mono ?_; rintro e w2 ⟨rfl, rfl⟩))
  all_goals
    go_wp2
    exact bodyPost_ret (v := .tuple #[.int .i64 ((numN L : Nat)), .agg #[.slice A n c, .int .i64 at1], .int .i64 e1]) (by simp [results, Tryz.results52, go_sem, d0, d1]) rfl ⟨rfl, ((hbW.setCell (by simp) _).setCell (by simp) _).drew⟩

end Go.Proofs.YtllcecnkbndokaaGreatDoor
