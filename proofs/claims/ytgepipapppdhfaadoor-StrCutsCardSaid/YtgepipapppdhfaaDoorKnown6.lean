/- cashbooklaw6.known by its contract: it returns true. Condition: utf8.ValidString keeps its contract. -/
import Derived.Test.YtgepipapppdhfaaDoorGet
import Derived.Test.YtgepipapppdhfaaDoorLit
namespace Go.Proofs.YtgepipapppdhfaaDoor
open Go.RowKit Go.Lib

theorem fresh_rd (w : World) (l : List UInt8) : Rd (w.alloc (.cells (l.map bv).toArray 5)) (w.heap.size + 1) 1 (some ⟨w.heap.size, 0, none⟩) l.length (l.map bv) := Rd.fresh w 5 1 l.length (l.map bv) (by simp)
theorem put1 {w : World} {B n c : Nat} {A : Option Addr} (HV : Val w) (h : Rd w B 1 A n (([] : List UInt8).map bv)) (hB : B ≤ w.heap.size) (hn : n ≤ 10) :
    Calls Tryd.prog 11 #[.slice A n c, .string ⟨#[97, 98]⟩] w fun e w' => ∃ A' n' c', e = .returned (.tuple #[.slice A' n' c', .int .i64 0]) ∧ n' ≤ c' ∧ Rd w' w'.heap.size 1 A' n' (([2, 0, 0, 97, 98] : List UInt8).map bv) ∧ Below w.heap.size w w' := by
  refine (put_any (s := ⟨#[97, 98]⟩) HV h hB (by omega) (by decide)).mono ?_
  rintro e w1 ⟨v, n1, rfl, ho, hb⟩
  rw [show putL [] ((⟨#[97, 98]⟩ : ByteArray).data.toList) = [2, 0, 0, 97, 98] by decide +kernel] at ho
  rw [show uE ((⟨#[97, 98]⟩ : ByteArray).data.toList) = 0 by decide +kernel]
  obtain ⟨A1, c1, rfl, hnc, -, hr⟩ := own_form ho
  exact ⟨A1, n1, c1, rfl, hnc, hr, hb⟩
theorem put2 {w : World} {B n c : Nat} {A : Option Addr} (HV : Val w) (h : Rd w B 1 A n (([9] : List UInt8).map bv)) (hB : B ≤ w.heap.size) (hn : n ≤ 10) :
    Calls Tryd.prog 11 #[.slice A n c, .string ⟨#[97, 226, 130, 172]⟩] w fun e w' => ∃ A' n' c', e = .returned (.tuple #[.slice A' n' c', .int .i64 0]) ∧ n' ≤ c' ∧ Rd w' w'.heap.size 1 A' n' (([9, 2, 0, 1, 97, 0, 172, 32] : List UInt8).map bv) ∧ Below w.heap.size w w' := by
  refine (put_any (s := ⟨#[97, 226, 130, 172]⟩) HV h hB (by omega) (by decide)).mono ?_
  rintro e w1 ⟨v, n1, rfl, ho, hb⟩
  rw [show putL [9] ((⟨#[97, 226, 130, 172]⟩ : ByteArray).data.toList) = [9, 2, 0, 1, 97, 0, 172, 32] by decide +kernel] at ho
  rw [show uE ((⟨#[97, 226, 130, 172]⟩ : ByteArray).data.toList) = 0 by decide +kernel]
  obtain ⟨A1, c1, rfl, hnc, -, hr⟩ := own_form ho
  exact ⟨A1, n1, c1, rfl, hnc, hr, hb⟩
theorem put3 {w : World} {B n c : Nat} {A : Option Addr} (HV : Val w) (h : Rd w B 1 A n (([7] : List UInt8).map bv)) (hB : B ≤ w.heap.size) (hn : n ≤ 10) :
    Calls Tryd.prog 11 #[.slice A n c, .string ⟨#[255]⟩] w fun e w' => ∃ A' n' c', e = .returned (.tuple #[.slice A' n' c', .int .i64 2]) ∧ n' ≤ c' ∧ Rd w' w'.heap.size 1 A' n' (([7] : List UInt8).map bv) ∧ Below w.heap.size w w' := by
  refine (put_any (s := ⟨#[255]⟩) HV h hB (by omega) (by decide)).mono ?_
  rintro e w1 ⟨v, n1, rfl, ho, hb⟩
  rw [show putL [7] ((⟨#[255]⟩ : ByteArray).data.toList) = [7] by decide +kernel] at ho
  rw [show uE ((⟨#[255]⟩ : ByteArray).data.toList) = 2 by decide +kernel]
  obtain ⟨A1, c1, rfl, hnc, -, hr⟩ := own_form ho
  exact ⟨A1, n1, c1, rfl, hnc, hr, hb⟩
theorem get1 {w : World} {B n c n' c' : Nat} {A A' : Option Addr} (h : Rd w B 1 A n (([9, 2, 0, 1, 97, 0, 172, 32] : List UInt8).map bv)) (hC : CutS w B A' n' []) (hnc : n ≤ c) (hB : B ≤ w.heap.size) :
    Calls Tryd.prog 9 #[.agg #[.slice A n c, .int .i64 1], .slice A' n' c'] w fun e w' => e = .returned (.tuple #[.string ⟨#[97, 226, 130, 172]⟩, .agg #[.slice A n c, .int .i64 8], .int .i64 0]) ∧ Below w.heap.size w w' := by
  have hl := h.blen
  have hn : n = 8 := by rw [← hl]; rfl
  have := get_any (at_ := 1) (c' := c') h hC hnc (by omega) hB (by omega) (by intro x hx; cases hx)
  rw [show rdS [9, 2, 0, 1, 97, 0, 172, 32] [] 1 = ([97, 226, 130, 172], 8, 0) by decide +kernel] at this
  exact this
theorem get2 {w : World} {B n c n' c' : Nat} {A A' : Option Addr} (h : Rd w B 1 A n (([2, 0, 0, 97, 1, 172, 32] : List UInt8).map bv)) (hC : CutS w B A' n' [4]) (hnc : n ≤ c) (hB : B ≤ w.heap.size) :
    Calls Tryd.prog 9 #[.agg #[.slice A n c, .int .i64 0], .slice A' n' c'] w fun e w' => e = .returned (.tuple #[.string ⟨#[97, 226, 130, 172]⟩, .agg #[.slice A n c, .int .i64 7], .int .i64 0]) ∧ Below w.heap.size w w' := by
  have hl := h.blen
  have hn : n = 7 := by rw [← hl]; rfl
  have := get_any (at_ := 0) (c' := c') h hC hnc (by omega) hB (by omega) (by intro x hx; simp at hx ⊢; omega)
  rw [show rdS [2, 0, 0, 97, 1, 172, 32] [4] 0 = ([97, 226, 130, 172], 7, 0) by decide +kernel] at this
  exact this
theorem get3 {w : World} {B n c n' c' : Nat} {A A' : Option Addr} (h : Rd w B 1 A n (([1, 0, 1, 0, 216] : List UInt8).map bv)) (hC : CutS w B A' n' []) (hnc : n ≤ c) (hB : B ≤ w.heap.size) :
    Calls Tryd.prog 9 #[.agg #[.slice A n c, .int .i64 0], .slice A' n' c'] w fun e w' => e = .returned (.tuple #[.string ⟨#[]⟩, .agg #[.slice A n c, .int .i64 0], .int .i64 2]) ∧ Below w.heap.size w w' := by
  have hl := h.blen
  have hn : n = 5 := by rw [← hl]; rfl
  have := get_any (at_ := 0) (c' := c') h hC hnc (by omega) hB (by omega) (by intro x hx; cases hx)
  rw [show rdS [1, 0, 1, 0, 216] [] 0 = ([], 0, 2) by decide +kernel] at this
  exact this
theorem get4 {w : World} {B n c n' c' : Nat} {A A' : Option Addr} (h : Rd w B 1 A n (([2, 0, 0, 97] : List UInt8).map bv)) (hC : CutS w B A' n' []) (hnc : n ≤ c) (hB : B ≤ w.heap.size) :
    Calls Tryd.prog 9 #[.agg #[.slice A n c, .int .i64 0], .slice A' n' c'] w fun e w' => e = .returned (.tuple #[.string ⟨#[]⟩, .agg #[.slice A n c, .int .i64 0], .int .i64 5]) ∧ Below w.heap.size w w' := by
  have hl := h.blen
  have hn : n = 4 := by rw [← hl]; rfl
  have := get_any (at_ := 0) (c' := c') h hC hnc (by omega) hB (by omega) (by intro x hx; cases hx)
  rw [show rdS [2, 0, 0, 97] [] 0 = ([], 0, 5) by decide +kernel] at this
  exact this
theorem units1 {w : World} (HV : Val w) : Calls Tryd.prog 14 #[.string ⟨#[240, 159, 152, 128, 120]⟩] w fun e w' => e = .returned (.tuple #[.int .i64 3, .int .i64 0]) ∧ Below w.heap.size w w' := by
  have := units_any HV ⟨#[240, 159, 152, 128, 120]⟩ (by decide)
  rw [show uV (⟨#[240, 159, 152, 128, 120]⟩ : ByteArray).data.toList = 3 by decide +kernel, show uE (⟨#[240, 159, 152, 128, 120]⟩ : ByteArray).data.toList = 0 by decide +kernel] at this
  exact this

theorem narrow1 {w : World} : Calls Tryd.prog 15 #[.string ⟨#[195, 191]⟩] w fun e w' => e = .returned (.bool true) ∧ Below w.heap.size w w' := by
  have := narrow_any (w := w) ⟨#[195, 191]⟩ (by decide)
  rw [show narB (⟨#[195, 191]⟩ : ByteArray).data.toList = true by decide +kernel] at this
  exact this
theorem narrow2 {w : World} : Calls Tryd.prog 15 #[.string ⟨#[196, 128]⟩] w fun e w' => e = .returned (.bool false) ∧ Below w.heap.size w w' := by
  have := narrow_any (w := w) ⟨#[196, 128]⟩ (by decide)
  rw [show narB (⟨#[196, 128]⟩ : ByteArray).data.toList = false by decide +kernel] at this
  exact this
theorem size1 {w : World} (HV : Val w) : Calls Tryd.prog 12 #[.string ⟨#[97, 98]⟩] w fun e w' => e = .returned (.int .i64 5) ∧ Below w.heap.size w w' := by
  have := size_any HV ⟨#[97, 98]⟩ (by decide)
  rw [show szV (⟨#[97, 98]⟩ : ByteArray).data.toList = 5 by decide +kernel] at this
  exact this
theorem size2 {w : World} (HV : Val w) : Calls Tryd.prog 12 #[.string ⟨#[255]⟩] w fun e w' => e = .returned (.int .i64 0) ∧ Below w.heap.size w w' := by
  have := size_any HV ⟨#[255]⟩ (by decide)
  rw [show szV (⟨#[255]⟩ : ByteArray).data.toList = 0 by decide +kernel] at this
  exact this
/-- What is held through the walk: both rows' bytes. -/
structure Hold (w W : World) (A1 : Option Addr) (n1 : Nat) (A3 : Option Addr) (n3 : Nat) : Prop where
  r1 : Rd W W.heap.size 1 A1 n1 (([2, 0, 0, 97, 98] : List UInt8).map bv)
  r3 : Rd W W.heap.size 1 A3 n3 (([9, 2, 0, 1, 97, 0, 172, 32] : List UInt8).map bv)
  b : Below w.heap.size w W
theorem Hold.below {w W W' : World} {A1 A3 : Option Addr} {n1 n3 : Nat} (h : Hold w W A1 n1 A3 n3) (hb : Below W.heap.size W W') : Hold w W' A1 n1 A3 n3 :=
  ⟨(h.r1.belowMono hb (Nat.le_refl _)).mono hb.size, (h.r3.belowMono hb (Nat.le_refl _)).mono hb.size, h.b.trans (hb.mono h.b.size)⟩
theorem up1 (W : World) (o : Obj) : Below W.heap.size W (W.alloc o) := (Below.refl _ _).alloc (Nat.le_refl _) o

theorem gk2 (W : World) (g : Nat) (hg : W.heap.size = g) : Calls Tryd.prog 9 #[.agg #[.slice (some ⟨g, 0, none⟩) 7 7, .int .i64 0], .slice (some ⟨g + 1, 0, none⟩) 1 1]
    ((W.alloc (.cells #[.int .u8 2, .int .u8 0, .int .u8 0, .int .u8 97, .int .u8 1, .int .u8 172, .int .u8 32] 5)).alloc (.cells #[.int .i64 4] 3)) fun e w' =>
      e = .returned (.tuple #[.string ⟨#[97, 226, 130, 172]⟩, .agg #[.slice (some ⟨g, 0, none⟩) 7 7, .int .i64 7], .int .i64 0]) ∧ Below W.heap.size W w' := by
  subst hg
  have h0 : Rd (W.alloc (.cells #[.int .u8 2, .int .u8 0, .int .u8 0, .int .u8 97, .int .u8 1, .int .u8 172, .int .u8 32] 5)) (W.heap.size + 1) 1 (some ⟨W.heap.size, 0, none⟩) 7 (([2, 0, 0, 97, 1, 172, 32] : List UInt8).map bv) := fresh_rd W [2, 0, 0, 97, 1, 172, 32]
  have h1 := (h0.belowMono (up1 _ (.cells #[.int .i64 4] 3)) (by simp)).mono (B' := W.heap.size + 2) (by omega)
  have h2 : Rd ((W.alloc (.cells #[.int .u8 2, .int .u8 0, .int .u8 0, .int .u8 97, .int .u8 1, .int .u8 172, .int .u8 32] 5)).alloc (.cells #[.int .i64 4] 3)) (W.heap.size + 2) 1 (some ⟨W.heap.size + 1, 0, none⟩) 1 (([4] : List Int).map iv) := by
    have := Rd.fresh (W.alloc (.cells #[.int .u8 2, .int .u8 0, .int .u8 0, .int .u8 97, .int .u8 1, .int .u8 172, .int .u8 32] 5)) 3 1 1 [.int .i64 4] rfl
    simpa [iv] using this
  refine (get2 (c' := 1) h1 ⟨h2, by simp, .inr ⟨_, _, rfl⟩, by omega⟩ (by omega) (by simp)).mono ?_
  rintro e w1 ⟨rfl, hb⟩
  exact ⟨rfl, ((up1 W _).alloc (by simp) _).trans (hb.mono (by simp; omega))⟩
theorem gk3 (W : World) (g : Nat) (hg : W.heap.size = g) : Calls Tryd.prog 9 #[.agg #[.slice (some ⟨g, 0, none⟩) 5 5, .int .i64 0], .slice none 0 0]
    (W.alloc (.cells #[.int .u8 1, .int .u8 0, .int .u8 1, .int .u8 0, .int .u8 216] 5)) fun e w' =>
      e = .returned (.tuple #[.string ⟨#[]⟩, .agg #[.slice (some ⟨g, 0, none⟩) 5 5, .int .i64 0], .int .i64 2]) ∧ Below W.heap.size W w' := by
  subst hg
  have h0 : Rd (W.alloc (.cells #[.int .u8 1, .int .u8 0, .int .u8 1, .int .u8 0, .int .u8 216] 5)) (W.heap.size + 1) 1 (some ⟨W.heap.size, 0, none⟩) 5 (([1, 0, 1, 0, 216] : List UInt8).map bv) := fresh_rd W [1, 0, 1, 0, 216]
  refine (get3 (c' := 0) h0 (CutS.nil _ _ _) (by omega) (by simp)).mono ?_
  rintro e w1 ⟨rfl, hb⟩
  exact ⟨rfl, (up1 W _).trans (hb.mono (by simp))⟩
theorem gk4 (W : World) (g : Nat) (hg : W.heap.size = g) : Calls Tryd.prog 9 #[.agg #[.slice (some ⟨g, 0, none⟩) 4 4, .int .i64 0], .slice none 0 0]
    (W.alloc (.cells #[.int .u8 2, .int .u8 0, .int .u8 0, .int .u8 97] 5)) fun e w' =>
      e = .returned (.tuple #[.string ⟨#[]⟩, .agg #[.slice (some ⟨g, 0, none⟩) 4 4, .int .i64 0], .int .i64 5]) ∧ Below W.heap.size W w' := by
  subst hg
  have h0 : Rd (W.alloc (.cells #[.int .u8 2, .int .u8 0, .int .u8 0, .int .u8 97] 5)) (W.heap.size + 1) 1 (some ⟨W.heap.size, 0, none⟩) 4 (([2, 0, 0, 97] : List UInt8).map bv) := fresh_rd W [2, 0, 0, 97]
  refine (get4 (c' := 0) h0 (CutS.nil _ _ _) (by omega) (by simp)).mono ?_
  rintro e w1 ⟨rfl, hb⟩
  exact ⟨rfl, (up1 W _).trans (hb.mono (by simp))⟩

set_option maxHeartbeats 8000000 in
set_option maxRecDepth 100000 in
theorem known_any {w : World} (HV : Val w) :
    Calls Tryd.prog 6 #[] w fun e w' => e = .returned (.bool true) ∧ Below w.heap.size w w' := by
  have H1 := Lib.hid (put1 (c := 0) HV (Rd.nil w 0 1 none) (by omega) (by omega))
  have HP2 := Lib.hid (fun (W : World) (hb : Below w.heap.size w W) => put2 (c := 1) (HV.below (hb.alloc hb.size (.cells #[.int .u8 9] 5))) (show Rd (W.alloc (.cells #[.int .u8 9] 5)) (W.heap.size + 1) 1 (some ⟨W.heap.size, 0, none⟩) 1 (([9] : List UInt8).map bv) from fresh_rd W [9]) (by simp) (by omega))
  have HP3 := Lib.hid (fun (W : World) (g : Nat) (hg : W.heap.size = g) (hb : Below w.heap.size w W) => put3 (c := 1) (HV.below (hb.alloc hb.size (.cells #[.int .u8 7] 5))) (show Rd (W.alloc (.cells #[.int .u8 7] 5)) (W.heap.size + 1) 1 (some ⟨g, 0, none⟩) 1 (([7] : List UInt8).map bv) by rw [← hg]; exact fresh_rd W [7]) (by simp) (by omega))
  have HUn := Lib.hid (fun (W : World) (hb : Below w.heap.size w W) => units1 (HV.below hb))
  have HV2 := Lib.hid HV
  clear HV
  go_enter Tryd.func6, Tryd.ntmps6
  go_wp2_with fail
  refine H1.out.mono ?_
  rintro e w1 ⟨A1, n1, c1, rfl, hnc1, hr1, hb1⟩
  clear H1
  go_wp2_with fail
  refine (HP2.out w1 hb1).mono ?_
  rintro e w2 ⟨A3, n3, c3, rfl, hnc3, hr3, hb2⟩
  have hb2' := (up1 w1 (.cells #[.int .u8 9] 5)).trans (hb2.mono (by simp))
  have HH := Lib.hid (show Hold w w2 A1 n1 A3 n3 from ⟨(hr1.belowMono hb2' (Nat.le_refl _)).mono hb2'.size, hr3, hb1.trans (hb2'.mono hb1.size)⟩)
  clear HP2 hb2 hr1 hr3 hb1 hb2'
  go_wp2_with fail
  refine (HUn.out w2 HH.out.b).mono ?_
  rintro e w3 ⟨rfl, hb3⟩
  have HH3 := Lib.hid (HH.out.below hb3)
  clear HUn hb3 HH
  go_wp2_with fail
  refine (get1 (B := w3.heap.size) HH3.out.r3 (CutS.nil _ _ _) hnc3 (Nat.le_refl _)).mono ?_
  rintro e w4 ⟨rfl, hb4⟩
  have HH4 := Lib.hid (HH3.out.below hb4)
  have HH5 := Lib.hid (HH4.out.below (up1 w4 (.cells #[.slice A3 n3 c3, .int .i64 8] 30)))
  have HK := Lib.hid (Bk.new w4 30 #[.slice A3 n3 c3, .int .i64 8])
  have hg : w4.heap.size < (w4.alloc (.cells #[.slice A3 n3 c3, .int .i64 8] 30)).heap.size := by simp
  have hz5 : (w4.alloc (.cells #[.slice A3 n3 c3, .int .i64 8] 30)).heap.size = w4.heap.size + 1 := by simp
  clear hb4 HH3 HH4
  go_wp2_with fail
  generalize hW : w4.alloc (.cells #[.slice A3 n3 c3, .int .i64 8] 30) = w5 at *
  clear hW
  generalize w4.heap.size = g8 at *
  refine (gk2 w5 (g8 + 1) hz5).mono ?_
  rintro e w6 ⟨rfl, hb6⟩
  have HH6 := Lib.hid ((HH5.out.below hb6).below (up1 w6 (.cells #[.slice (some ⟨g8 + 1, 0, none⟩) 7 7, .int .i64 7] 30)))
  have HK6 := Lib.hid ((HK.out.below hb6 hg).alloc (.cells #[.slice (some ⟨g8 + 1, 0, none⟩) 7 7, .int .i64 7] 30))
  have hg6 : g8 < (w6.alloc (.cells #[.slice (some ⟨g8 + 1, 0, none⟩) 7 7, .int .i64 7] 30)).heap.size := by have := hb6.size; simp; omega
  have hz7 : (w6.alloc (.cells #[.slice (some ⟨g8 + 1, 0, none⟩) 7 7, .int .i64 7] 30)).heap.size = w6.heap.size + 1 := by simp
  clear hb6 HH5 HK hg
  go_wp2_with fail
  generalize hW : w6.alloc (.cells #[.slice (some ⟨g8 + 1, 0, none⟩) 7 7, .int .i64 7] 30) = w7 at *
  clear hW
  refine (gk3 w7 (w6.heap.size + 1) hz7).mono ?_
  rintro e w8 ⟨rfl, hb8⟩
  have HH8 := Lib.hid ((HH6.out.below hb8).below (up1 w8 (.cells #[.slice (some ⟨w6.heap.size + 1, 0, none⟩) 5 5, .int .i64 0] 30)))
  have HK8 := Lib.hid ((HK6.out.below hb8 hg6).alloc (.cells #[.slice (some ⟨w6.heap.size + 1, 0, none⟩) 5 5, .int .i64 0] 30))
  have hg8 : g8 < (w8.alloc (.cells #[.slice (some ⟨w6.heap.size + 1, 0, none⟩) 5 5, .int .i64 0] 30)).heap.size := by have := hb8.size; simp; omega
  have hz9 : (w8.alloc (.cells #[.slice (some ⟨w6.heap.size + 1, 0, none⟩) 5 5, .int .i64 0] 30)).heap.size = w8.heap.size + 1 := by simp
  clear hb8 HH6 HK6 hg6
  go_wp2_with fail
  generalize hW : w8.alloc (.cells #[.slice (some ⟨w6.heap.size + 1, 0, none⟩) 5 5, .int .i64 0] 30) = w9 at *
  clear hW
  refine (HP3.out w9 (w8.heap.size + 1) hz9 HH8.out.b).mono ?_
  rintro e w10 ⟨A7, n7, c7, rfl, -, -, hb10⟩
  have hb10' := (up1 w9 (.cells #[.int .u8 7] 5)).trans (hb10.mono (by simp))
  have HH10 := Lib.hid (HH8.out.below hb10')
  have HK10 := Lib.hid (HK8.out.below hb10' hg8)
  have hg10 : g8 < w10.heap.size := Nat.lt_of_lt_of_le hg8 hb10'.size
  clear hb10 hb10' HH8 HK8 hg8 HP3
  go_wp2_with fail
  refine (gk4 w10 w10.heap.size rfl).mono ?_
  rintro e w11 ⟨rfl, hb11⟩
  have HH11 := Lib.hid ((HH10.out.below hb11).below (up1 w11 (.cells #[.slice (some ⟨w10.heap.size, 0, none⟩) 4 4, .int .i64 0] 30)))
  have HK11 := Lib.hid ((HK10.out.below hb11 hg10).alloc (.cells #[.slice (some ⟨w10.heap.size, 0, none⟩) 4 4, .int .i64 0] 30))
  have hg11 : g8 < (w11.alloc (.cells #[.slice (some ⟨w10.heap.size, 0, none⟩) 4 4, .int .i64 0] 30)).heap.size := by have := hb11.size; simp; omega
  clear hb11 HH10 HK10 hg10
  have hs1 := run_str (c := c1) HH11.out.r1
  have hs3 := run_str (c := c3) HH11.out.r3
  rw [show strOf [2, 0, 0, 97, 98] = ⟨#[2, 0, 0, 97, 98]⟩ from rfl] at hs1
  rw [show strOf [9, 2, 0, 1, 97, 0, 172, 32] = ⟨#[9, 2, 0, 1, 97, 0, 172, 32]⟩ from rfl] at hs3
  have f8 := HK11.out.cell 1
  have hbF := HH11.out.b
  have HVF := Lib.hid (HV2.out.below hbF)
  clear HV2 HH11 HK11 hg11
  go_wp2_with fail
  refine narrow1.mono ?_
  rintro e w13 ⟨rfl, hb13⟩
  have hbG := hbF.trans (hb13.mono hbF.size)
  have HVG := Lib.hid (HVF.out.below hb13)
  clear hs1 hs3 f8 hbF HVF hb13
  go_wp2_with fail
  refine narrow2.mono ?_
  rintro e w14 ⟨rfl, hb14⟩
  have hbH := hbG.trans (hb14.mono hbG.size)
  have HVH := Lib.hid (HVG.out.below hb14)
  clear hbG HVG hb14
  go_wp2_with fail
  refine (size1 HVH.out).mono ?_
  rintro e w15 ⟨rfl, hb15⟩
  have hbI := hbH.trans (hb15.mono hbH.size)
  have HVI := Lib.hid (HVH.out.below hb15)
  clear hbH HVH hb15
  go_wp2_with fail
  refine (size2 HVI.out).mono ?_
  rintro e w16 ⟨rfl, hb16⟩
  have hbJ := hbI.trans (hb16.mono hbI.size)
  clear hbI HVI hb16
  go_wp2
  go_ret
  exact ⟨rfl, hbJ⟩
end Go.Proofs.YtgepipapppdhfaaDoor
