/- expr's stack: start, depth, next, by their contracts. Conditions: what is read is there. -/
import Derived.Test.YtkjiokepihmpfaaDoorSt
import Derived.Test.YtkjiokepihmpfaaDoorProg
set_option linter.unusedVariables false
set_option linter.unusedSimpArgs false
namespace Go.Proofs.YtkjiokepihmpfaaDoor
open Go.RowKit

theorem made_row {W : World} {base g : Nat} {t : TypeId} {x : Value} (hb : base ≤ g) (hg : W.heap.size = g) : (W.alloc (.cells #[x] t)).ownsRow base t 1 (.slice (some ⟨g, 0, none⟩) 1 1) 1 [x] := by
  subst hg
  exact ⟨rfl, .inr ⟨W.heap.size, 1, #[x], rfl, hb, heap_alloc_new W _, by omega, by simp [maxLen], rfl, rfl⟩⟩

theorem size3 (w : World) (o o' o'' : Obj) : (((w.alloc o).alloc o').alloc o'').heap.size = w.heap.size + 3 := by simp

/-- A block of one formula as a row. -/
theorem row_one {W : World} {g B c : Nat} {p : Pay} {ks : List Tr} {A : Option Addr} (hk : Bk W g 83 (ec p (.slice A ks.length c)).toArray) (hg : g < B) (hc : ks.length ≤ c) (hr : RowF treeF W (· < B) A ks.length ks) :
    RowF treeF W (· < B) (some ⟨g, 0, none⟩) [Tr.mk p ks].length [.mk p ks] := by
  refine ⟨rfl, fun _ => ⟨_, rfl, hg, fun i t hi => ?_⟩⟩
  match i, hi with
  | 0, hi =>
    simp only [List.getElem?_cons_zero, Option.some.injEq] at hi
    subst hi
    refine ⟨ec p (.slice A ks.length c), tree_mk.2 ⟨A, c, rfl, hc, hr⟩, fun j u hu => ?_⟩
    rw [show 0 * treeF.k + j = j by simp, addr_zero, hk.cell]
    simpa using hu

set_option maxRecDepth 20000 in
theorem start_any {w : World} {p : Pay} {ks : List Tr} {A : Option Addr} {c : Nat} (hc : ks.length ≤ c) (hr : RowF treeF w (· < w.heap.size) A ks.length ks) :
    Calls Tryd.prog 70 #[.agg (ec p (.slice A ks.length c)).toArray] w fun e W => ∃ v xs, e = .returned v ∧ Below w.heap.size w W ∧ W.heap.size = w.heap.size + 3 ∧ W.ownsRow (w.heap.size + 2) 26 1 v 1 xs ∧ Hdr W (w.heap.size + 2) xs [[.mk p ks]] := by
  have HR : Hid (ks.length ≤ c ∧ RowF treeF w (· < w.heap.size) A ks.length ks) := Lib.hid ⟨hc, hr⟩
  have HB := Lib.hid (bel2 w)
  have HZ := Lib.hid (size3 w)
  have hbx := Bk.new w 83 (ec p (.slice A ks.length c)).toArray
  clear hc hr
  generalize hes : ec p (.slice A ks.length c) = es at *
  go_enter Tryd.func70, Tryd.ntmps70
  subst hes
  repeat' (first | ((with_reducible apply ld_p); exact rfl; exact rfl; assumption; go_simp) | ((with_reducible apply bs_1); exact rfl; exact rfl; go_simp) | go_values | go_skip | go_guarded | go_step | go_upon)
  go_ret
  obtain ⟨hc, hr⟩ := HR.out
  refine ⟨.slice (some ⟨w.heap.size + 2, 0, none⟩) 1 1, [.slice (some ⟨w.heap.size + 1, 0, none⟩) 1 1], rfl, HB.out _ _ _, HZ.out _ _ _, made_row (Nat.le_refl _) (by simp), ?_⟩
  have hb := HB.out (.cells (ec p (.slice A ks.length c)).toArray 83) (.cells (ec p (.slice A ks.length c)).toArray 83) (.cells #[.slice (some ⟨w.heap.size + 1, 0, none⟩) 1 1] 26)
  have k1 : Bk ((w.alloc (.cells (ec p (.slice A ks.length c)).toArray 83)).alloc (.cells (ec p (.slice A ks.length c)).toArray 83)) (w.heap.size + 1) 83 (ec p (.slice A ks.length c)).toArray := by simpa using Bk.new (w.alloc (.cells (ec p (.slice A ks.length c)).toArray 83)) 83 (ec p (.slice A ks.length c)).toArray
  have k2 := k1.alloc (.cells #[.slice (some ⟨w.heap.size + 1, 0, none⟩) 1 1] 26)
  generalize ((w.alloc (.cells (ec p (.slice A ks.length c)).toArray 83)).alloc (.cells (ec p (.slice A ks.length c)).toArray 83)).alloc (.cells #[.slice (some ⟨w.heap.size + 1, 0, none⟩) 1 1] 26) = W at *
  intro i ts hi
  match i, hi with
  | 0, hi =>
    simp only [List.getElem?_cons_zero, Option.some.injEq] at hi
    subst hi
    exact ⟨_, 1, rfl, by simp, row_one k2 (by omega) hc ((hr.below hb (Nat.le_refl _)).mono (by omega))⟩

theorem depth_s {w : World} {S : Option Addr} {n c : Nat} : Calls Tryd.prog 86 #[.slice S n c] w fun e W => e = .returned (.int .i64 n) ∧ W = w := by
  go_enter Tryd.func86, Tryd.ntmps86
  go_wp2
  go_ret
  exact ⟨rfl, rfl⟩
end Go.Proofs.YtkjiokepihmpfaaDoor
