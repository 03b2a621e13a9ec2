/- str.Get by its contract. Condition: the bytes and the cuts read as such, no cut stands right behind another one; the Cursor stands in the bytes. -/
import Derived.Test.YtllcecnkbndokaaGreatDoorJoin2
namespace Go.Proofs.YtllcecnkbndokaaGreatDoor
open Go.RowKit Go.Lib

/-- The text at a place: its bytes, the place behind it, what is wrong. -/
def rdS (l : List UInt8) (cs : List Int) (at_ : Nat) : List UInt8 × Nat × Int :=
  if (rdAll l cs at_).2.2 = 0 then
    if (jn (rdAll l cs at_).1).isSome = true then ((jn (rdAll l cs at_).1).getD [], (rdAll l cs at_).2.1, 0) else ([], at_, 2)
  else ([], at_, (rdAll l cs at_).2.2)

theorem rdU1_bd (l : List UInt8) (cs : List Int) (fl at_ : Nat) : (rdU1 l cs fl at_).1 ≤ 65535 := by
  have b0 := byte_lt l at_
  have b1 := byte_lt l (at_ + 1)
  unfold rdU1
  repeat' split
  all_goals (simp only; omega)
theorem rdUs_bd (l : List UInt8) (cs : List Int) : ∀ (k fl at_ : Nat), ∀ u ∈ (rdUs l cs k fl at_).1, 0 ≤ u ∧ u ≤ 65535
  | 0, fl, at_ => by simp [rdUs]
  | k + 1, fl, at_ => by
    intro u hu
    rw [rdUs] at hu
    split at hu
    · split at hu
      · rcases List.mem_cons.1 hu with rfl | hu
        · have := rdU1_bd l cs (rdA l cs fl at_).1 (rdA l cs fl at_).2.1
          omega
        · exact rdUs_bd l cs k _ _ u hu
      · cases hu
    · cases hu
theorem rdAll_bd (l : List UInt8) (cs : List Int) (at_ : Nat) : ∀ u ∈ (rdAll l cs at_).1, 0 ≤ u ∧ u ≤ 65535 := by
  intro u hu
  unfold rdAll at hu
  split at hu
  · split at hu
    · cases hu
    · split at hu
      · exact rdUs_bd l cs _ _ _ u hu
      · cases hu
  · cases hu

theorem tbox {w w1 : World} {T T' : TypeId} {cs ds : Array Value} (hb : Below w.heap.size ((w.alloc (.cells cs T)).alloc (.cells ds T')) w1) : Below w.heap.size w w1 :=
  (((Below.refl w.heap.size w).alloc (Nat.le_refl _) _).alloc (by simp) _).trans hb

set_option maxHeartbeats 8000000 in
set_option maxRecDepth 100000 in
theorem get_any {w : World} {B n c at_ n' c' : Nat} {A A' : Option Addr} {l : List UInt8} {cs : List Int} (h : Rd w B 1 A n (l.map bv)) (hC : CutS w B A' n' cs) (hnc : n ≤ c) (hn : n ≤ 1000000000000000000) (hB : B ≤ w.heap.size) (ha : at_ ≤ n) (hna : ∀ x : Int, cs.contains x = true → cs.contains (x + 1) = false) :
    Calls Tryz.prog 70 #[cur A n c at_, .slice A' n' c'] w fun e w' => e = .returned (.tuple #[.string ⟨(rdS l cs at_).1.toArray⟩, cur A n c (rdS l cs at_).2.1, .int .i64 (rdS l cs at_).2.2]) ∧ Below w.heap.size w w' := by
  have hbel0 := two_below w (.cells #[.slice A n c, .int .i64 at_] 99) (.cells #[.slice none 0 0, .int .i64 0] 99)
  have HG := Lib.hid (getUnits_any (n := n) (c := c) (at_ := at_) (n' := n') (c' := c') (h.belowMono hbel0 hB) (hC.belowMono hbel0 hB) hnc hn (Nat.le_trans hB hbel0.size) ha hna)
  have HB := Lib.hid (rdAll_bd l cs at_)
  clear h hC hna
  obtain ⟨S, hS⟩ : ∃ S, rdS l cs at_ = S := ⟨_, rfl⟩
  rw [hS]
  unfold rdS at hS
  generalize rdAll l cs at_ = T at *
  obtain ⟨us, a1, e1⟩ := T
  simp only at hS HB
  have HS := Lib.hid hS
  clear hS
  by_cases he1 : e1 = 0
  · subst he1
    obtain ⟨J, hJ⟩ : ∃ J, jn us = J := ⟨_, rfl⟩
    have HJ := Lib.hid hJ
    rw [hJ] at HS
    clear hJ
    unfold cur at *
    go_enter Tryz.func70, Tryz.ntmps70
    go_wp2_with fail
    refine HG.out.mono ?_
    rintro e w1 ⟨hgot, hb1⟩
    clear HG
    rcases hgot with ⟨h0, -⟩ | ⟨-, v, k, rfl, ho, hk⟩
    · exact absurd rfl h0
    · obtain ⟨k2, k5, hbel, s1⟩ := two_boxes hb1
      obtain ⟨Au, cu, rfl, hncu, -, hru⟩ := own_form ho
      unfold cur
      have hsz2 := k2.lt
      have hsz5 := k5.lt
      have k8 := Bk.new w1 99 #[.slice A n c, .int .i64 a1]
      have k2' := k2.alloc (.cells #[.slice A n c, .int .i64 a1] 99)
      have k5' := k5.alloc (.cells #[.slice A n c, .int .i64 a1] 99)
      have hbel' := hbel.alloc hbel.size (.cells #[.slice A n c, .int .i64 a1] 99)
      have hru' := hru.belowMono ((Below.refl w1.heap.size w1).alloc (Nat.le_refl _) (.cells #[.slice A n c, .int .i64 a1] 99)) (Nat.le_refl _)
      have hszW : w1.heap.size < (w1.alloc (.cells #[.slice A n c, .int .i64 a1] 99)).heap.size := by simp
      clear k2 k5 hbel hru ho
      go_wp2_with fail
      generalize hW : w1.alloc (.cells #[.slice A n c, .int .i64 a1] 99) = w2 at *
      refine (join_any hru' (by omega) hncu (by omega) HB.out).mono ?_
      rintro e w3 ⟨rfl, hb3⟩
      rw [HJ.out]
      have k2 := k2'.below hb3 (by omega)
      have k5 := k5'.below hb3 (by omega)
      have k8' := k8.below hb3 hszW
      have hbel := hbel'.trans (hb3.mono hbel'.size)
      have hsz := hb3.size
      clear k2' k5' k8 hbel' hru' hb3 HJ HB
      cases J with
      | none =>
        have hS := HS.out
        simp at hS
        subst hS
        clear HS
        have f0 := k2.cell 0
        have f1 := k2.cell 1
        have d0 := k5.cell 0
        have d1 := k5.cell 1
        have z0 := k5.frozen 0
        have z1 := k5.frozen 1
        go_wp2
        go_region
        all_goals
          go_wp2
          exact bodyPost_ret (v := .tuple #[.string ⟨#[]⟩, .agg #[.slice A n c, .int .i64 at_], .int .i64 2]) (by simp [results, Tryz.results70, go_sem, d0, d1]) rfl ⟨rfl, ((hbel.setCell (by simp) _).setCell (by simp) _).drew⟩
      | some s =>
        have hS := HS.out
        simp at hS
        subst hS
        clear HS
        have f0 := k8'.cell 0
        have f1 := k8'.cell 1
        have d0 := k5.cell 0
        have d1 := k5.cell 1
        have z0 := k5.frozen 0
        have z1 := k5.frozen 1
        go_wp2
        go_region
        all_goals
          go_wp2
          exact bodyPost_ret (v := .tuple #[.string ⟨s.toArray⟩, .agg #[.slice A n c, .int .i64 a1], .int .i64 0]) (by simp [results, Tryz.results70, go_sem, d0, d1]) rfl ⟨rfl, ((hbel.setCell (by simp) _).setCell (by simp) _).drew⟩
  · have hS := HS.out
    rw [if_neg he1] at hS
    subst hS
    clear HS HB
    unfold cur at *
    go_enter Tryz.func70, Tryz.ntmps70
    go_wp2_with fail
    refine HG.out.mono ?_
    rintro e w1 ⟨hgot, hb1⟩
    clear HG
    rcases hgot with ⟨-, x, rfl⟩ | ⟨h0, -⟩
    · obtain ⟨k2, k5, hbel, s1⟩ := two_boxes hb1
      unfold cur
      have k2' := k2.alloc (.cells #[.slice A n c, .int .i64 x] 99)
      have k5' := k5.alloc (.cells #[.slice A n c, .int .i64 x] 99)
      have hbel' := hbel.alloc hbel.size (.cells #[.slice A n c, .int .i64 x] 99)
      clear k2 k5 hbel
      go_wp2
      generalize w1.alloc (.cells #[.slice A n c, .int .i64 x] 99) = w2 at *
      have f0 := k2'.cell 0
      have f1 := k2'.cell 1
      have d0 := k5'.cell 0
      have d1 := k5'.cell 1
      have z0 := k5'.frozen 0
      have z1 := k5'.frozen 1
      go_region
      all_goals
        go_wp2
        exact bodyPost_ret (v := .tuple #[.string ⟨#[]⟩, .agg #[.slice A n c, .int .i64 at_], .int .i64 e1]) (by simp [results, Tryz.results70, go_sem, d0, d1]) rfl ⟨rfl, ((hbel'.setCell (by simp) _).setCell (by simp) _).drew⟩
    · exact absurd h0 he1
end Go.Proofs.YtllcecnkbndokaaGreatDoor
