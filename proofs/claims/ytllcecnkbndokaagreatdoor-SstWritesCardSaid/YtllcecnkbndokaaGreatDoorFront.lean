/- (*sst.parts).putFront by its contract. Conditions: the parts as PI has them, not too long; the uses go into four bytes. -/
import Derived.Test.YtllcecnkbndokaaGreatDoorTextA
import Derived.Test.YtllcecnkbndokaaGreatDoorLePut
import Derived.Test.YtllcecnkbndokaaGreatDoorCkTab
namespace Go.Proofs.YtllcecnkbndokaaGreatDoor
open Go.RowKit Go.Lib

theorem PI.grow {W W3 : World} {base g : Nat} {S : LS} {ps : List Nat} {d c p v3 : Value} {t : List UInt8} (h : PI W base g S ps d c p) (hg : Grew W W3 d v3) (ho : W3.ownsRow base 5 1 v3 (S.b.length + t.length) (S.b.map bv ++ t.map bv)) :
    Bk W3 g 83 #[d, c, .int .i64 S.bg, p] ∧ PJ W (W3.setCell ⟨g, 0, none⟩ v3) base g ⟨S.b ++ t, S.cs, S.bg⟩ ps d c p v3 c p := by
  have hb3 : Bk W3 g 83 #[d, c, .int .i64 S.bg, p] := hg.bk h.od h.box (by decide)
  have h1 : Keep (fun i => i = g) W3 (W3.setCell ⟨g, 0, none⟩ v3) := (Keep.refl (fun i => i = g) W3).setCell (p := ⟨g, 0, none⟩) (fun _ => rfl) v3
  have hK : Keep (ApT g d) W (W3.setCell ⟨g, 0, none⟩ v3) := (Keep.of_grew (S := ApT g d) hg fun i hi => .inr hi.symm).trans h1 fun i _ hi => .inl hi
  refine ⟨hb3, h.data hK (hb3.set_ 0 v3) ?_ hg.lies⟩
  rw [List.length_append, List.map_append]
  exact h1.own ho fun i hi he => by
    subst he
    exact own_ne ho hb3 (by decide) hi

theorem lputL_fit {k : Int} {s : Nat} (h : 0 ≤ k ∧ k < ((256 ^ s : Nat) : Int)) (l : List UInt8) : lputL l k s = l ++ lowB k.toNat s := by
  unfold lputL
  rw [if_pos h]
theorem lputE_fit {k : Int} {s : Nat} (h : 0 ≤ k ∧ k < ((256 ^ s : Nat) : Int)) : lputE k s = 0 := by
  unfold lputE
  rw [if_pos h]

set_option maxHeartbeats 4000000 in
set_option maxRecDepth 100000 in
theorem putFront_any {w : World} {base g n c : Nat} {S : LS} {ps : List Nat} {dv cv pv : Value} {A : Option Addr} {u : Int} (h : PI w base g S ps dv cv pv) (hB : base ≤ w.heap.size) (hS : S.b.length ≤ 1000000) (hu : 0 ≤ u ∧ u < 4294967296) (hn : n ≤ 1000000) :
    Calls Tryz.prog 41 #[.pointer (some ⟨g, 0, none⟩), .agg #[.slice A n c, .int .i64 u]] w fun e w' => e = .returned (.tuple #[]) ∧ ∃ dv', PJ w w' base g ⟨S.b ++ (lowB u.toNat 4 ++ lowB n 4), S.cs, S.bg⟩ ps dv cv pv dv' cv pv := by
  have hP1 := fun W (hb : Below w.heap.size w W) => lput32_any (w := W) (c := 0) (k := u) (l := []) (Rd.nil W 0 1 none) (Nat.zero_le _) (by omega)
  have hP2 := fun W (A : Option Addr) (c : Nat) (hr : Rd W W.heap.size 1 A 4 ((lowB u.toNat 4).map bv)) => lput32_any (w := W) (c := c) (k := (n : Int)) hr (Nat.le_refl _) (by omega)
  rw [lputL_fit (s := 4) ⟨hu.1, by omega⟩, lputE_fit (s := 4) ⟨hu.1, by omega⟩, List.nil_append, lowB_len] at hP1
  rw [lputL_fit (s := 4) ⟨by omega, by omega⟩, lputE_fit (s := 4) ⟨by omega, by omega⟩, List.length_append, lowB_len, lowB_len, Int.toNat_natCast] at hP2
  have HP1 := Lib.hid hP1
  have HP2 := Lib.hid hP2
  clear hP1 hP2
  have hl8 : (lowB u.toNat 4 ++ lowB n 4).length = 8 := by rw [List.length_append, lowB_len, lowB_len]
  generalize lowB u.toNat 4 = LA at *
  generalize lowB n 4 = LB at *
  have h' := h.below (bx1' w (.cells #[.slice A n c, .int .i64 u] 34))
  have hJ0 : PJ w (w.alloc (.cells #[.slice A n c, .int .i64 u] 34)) base g S ps dv cv pv dv cv pv := h.refl.below (bx1' w _)
  clear h
  go_enter Tryz.func41, Tryz.ntmps41
  go_wp2_with fail
  refine (HP1.out _ (bx1' _ _)).mono ?_
  rintro e w1 ⟨v1, rfl, o1, b1⟩
  obtain ⟨k1, hb1, hs1⟩ := bx1 b1
  have hJ1 := hJ0.below b1
  obtain ⟨A1, c1, rfl, -, -, r1⟩ := own_form o1
  have c11 := k1.cell 0
  have c10 := k1.cell 1
  clear hJ0 h' b1 o1 HP1
  go_wp2_with fail
  refine (HP2.out w1 A1 c1 r1).mono ?_
  rintro e w2 ⟨v2, rfl, o2, b2⟩
  have hJ2 := hJ1.below b2
  obtain ⟨A2, c2, rfl, -, -, r2⟩ := own_form o2
  have hB2 : base ≤ w2.heap.size := Nat.le_trans hB hJ2.keep.size
  have hod := hJ2.i.od
  have f2 := hJ2.i.box.cell 0
  obtain ⟨Ad, cd, rfl, -, -, -⟩ := own_form hod
  clear hJ1 k1 c10 c11 b2 o2 r1 HP2
  go_wp2_with (at_builtin; refine wpList_app bytesRow rfl (.tmp 24) (.tmp 25) rfl rfl rfl hod r2 (bv_one _) ?_ ?_ ?_ ?_)
  · unfold maxLen; omega
  · omega
  · omega
  intro v3 w3 o3 g3 b3
  obtain ⟨hb3, hJ3⟩ := hJ2.i.grow (t := LA ++ LB) g3 (by rw [hl8, List.map_append]; exact o3)
  obtain ⟨A3, c3, rfl, -, -, -⟩ := own_form o3
  have hJF := hJ2.trans hJ3
  have f3 := hb3.cell 0
  have z3 := hb3.frozen 0
  clear o3 g3 b3 hb3 hJ2 hJ3 f2 hod
  go_wp2
  go_end0
  exact ⟨rfl, _, hJF⟩
end Go.Proofs.YtllcecnkbndokaaGreatDoor
