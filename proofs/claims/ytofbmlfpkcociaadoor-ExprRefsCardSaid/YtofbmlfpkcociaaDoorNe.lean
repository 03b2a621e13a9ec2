/- cashbooklaw10.nest by its contract. Condition: not too many brackets. -/
import Derived.Test.YtofbmlfpkcociaaDoorKa
set_option linter.unusedVariables false
set_option linter.unusedSimpArgs false
namespace Go.Proofs.YtofbmlfpkcociaaDoor
open Go.RowKit

def nestT : Nat → Tr
  | 0 => .mk (numP 1) []
  | n + 1 => .mk parP [nestT n]
theorem nest_parts : ∀ n, nestT n = .mk (nestT n).pay (nestT n).kids
  | 0 => rfl
  | _ + 1 => rfl

theorem row_oneX {W : World} {F : Nat → Prop} {g c : Nat} {p : Pay} {ks : List Tr} {A : Option Addr} (hk : Bk W g 43 (ec p (.slice A ks.length c)).toArray) (hg : F g) (hc : ks.length ≤ c) (hr : RowF treeF W F A ks.length ks) :
    RowF treeF W F (some ⟨g, 0, none⟩) [Tr.mk p ks].length [.mk p ks] := by
  refine ⟨rfl, fun _ => ⟨_, rfl, hg, fun i t hi => ?_⟩⟩
  match i, hi with
  | 0, hi =>
    simp only [List.getElem?_cons_zero, Option.some.injEq] at hi
    subst hi
    refine ⟨ec p (.slice A ks.length c), tree_mk.2 ⟨A, c, rfl, hc, hr⟩, fun j u hu => ?_⟩
    rw [show 0 * treeF.k + j = j by simp, addr_zero, hk.cell]
    simpa using hu

structure NeL (w : World) (g : Nat) (t : Tr) (wr : World) : Prop where
  bel : Below w.heap.size w wr
  zr : Bk wr w.heap.size 43 (ec zp (.slice none 0 0)).toArray
  row : ∃ A c, Bk wr g 43 (ec t.pay (.slice A t.kids.length c)).toArray ∧ t.kids.length ≤ c ∧ RowF treeF wr (fun i => i < wr.heap.size ∧ i ≠ g ∧ i ≠ w.heap.size) A t.kids.length t.kids

set_option maxRecDepth 20000 in
set_option maxHeartbeats 2000000 in
theorem nest_any {w : World} (n : Nat) (hn : n ≤ 1000) : Calls Tryd.prog 18 #[.int .i64 n] w fun e W => ∃ v, e = .returned v ∧ AtV W (nestT n).pay (nestT n).kids v ∧ Below w.heap.size w W := by
  have hb1 := bel0 w (.cells #[.int .i64 0, .int .i64 0, .int .i64 0, .int .i64 0, .string ⟨#[]⟩, .bool false, .int .i64 0, .int .i64 0, .int .i64 0, .bool false, .bool false, .int .i64 0, .int .i64 0, .bool false, .bool false, .int .i64 0, .int .i64 0, .slice none 0 0] 43)
  have hk0 : Bk (w.alloc (.cells #[.int .i64 0, .int .i64 0, .int .i64 0, .int .i64 0, .string ⟨#[]⟩, .bool false, .int .i64 0, .int .i64 0, .int .i64 0, .bool false, .bool false, .int .i64 0, .int .i64 0, .bool false, .bool false, .int .i64 0, .int .i64 0, .slice none 0 0] 43)) w.heap.size 43 (ec zp (.slice none 0 0)).toArray := Bk.new _ _ _
  have HB := Lib.hid (And.intro hb1 hk0)
  clear hb1 hk0
  go_enter Tryd.func18, Tryd.ntmps18
  repeat' (first | go_values | go_skip | go_guarded | go_step | go_upon)
  refine (num_any 1).mono ?_
  rintro e W ⟨rfl, hb⟩
  have hkr := HB.out.2.below hb HB.out.2.lt
  have hbw := HB.out.1.trans (hb.mono HB.out.1.size)
  have hk3 : Bk (W.alloc (.cells #[.int .i64 0, .int .i64 0, .int .i64 0, .int .i64 0, .string ⟨#[]⟩, .bool false, .int .i64 0, .int .i64 0, .int .i64 0, .bool false, .bool false, .int .i64 0, .int .i64 0, .bool false, .bool false, .int .i64 0, .int .i64 0, .slice none 0 0] 43)) W.heap.size 43 (ec zp (.slice none 0 0)).toArray := Bk.new _ _ _
  have hwl := hkr.lt
  clear hb HB
  dsimp only
  repeat' (first | ((with_reducible show Oper.wp _ _ _ _ _ _); apply stop_s; exact rfl) | go_values | go_skip | go_guarded | go_step | go_upon)
  refine Lib.hid ?_
  apply st_p
  · exact rfl
  · exact rfl
  · exact rfl
  · exact hk3
  · exact rfl
  intro W2 hm2 hK2 hz
  have hb12 := made_box hK2
  have HL : Hid (NeL w W.heap.size (nestT 0) W2) := Lib.hid ⟨hbw.trans (hb12.mono hbw.size), hkr.below hb12 hwl, none, 0, hm2, Nat.le_refl _, RowF.nil _ _ _ _⟩
  generalize hgg : W.heap.size = g at *
  have hgw : w.heap.size < g := by omega
  clear hkr hbw hk3 hwl hm2 hK2 hz hb12 hgg
  go_simp
  repeat' (first | go_values | go_skip | go_guarded | go_step | go_upon)
  go_loopw [4] (fun i wr => ∃ j : Nat, i = .int .i64 j ∧ j ≤ n ∧ Hid (NeL w g (nestT j) wr)) (fun i _ => n - (intOf i).toNat)
  case atStart => exact ⟨0, rfl, Nat.zero_le _, HL⟩
  case round =>
    obtain ⟨j, rfl, hj, HJ⟩ := hrel
    clear HL
    obtain ⟨A, c, hkg, hac, hat⟩ := HJ.out.row
    have HA := Lib.hid (And.intro hac hat)
    clear hat hac
    generalize hp : (nestT j).pay = p at *
    generalize hk : (nestT j).kids = ks at *
    have HP := Lib.hid (And.intro hp hk)
    clear hp hk
    by_cases hjn : j < n
    · have hjn' : (j : Int) < (n : Int) := by omega
      repeat' (first | ((with_reducible show Oper.wp _ _ _ _ _ _); apply ld_p; exact rfl; exact rfl; assumption; go_simp) | ((with_reducible show Oper.wp _ _ _ _ _ _); apply bs_1; exact rfl; exact rfl; go_simp) | ((with_reducible show Oper.wp _ _ _ _ _ _); apply stop_b; exact rfl) | go_values | go_skip | go_guarded | go_step | go_upon)
      refine Lib.hid ?_
      refine wp_b (v := .agg (ec parP (.slice (some ⟨wr.heap.size, 0, none⟩) 1 1)).toArray) (by kernel_rfl) ?_
      have hb4 := bel0 wr (.cells (ec p (.slice A ks.length c)).toArray 43)
      have hkn := Bk.new wr 43 (ec p (.slice A ks.length c)).toArray
      have hkg4 := hkg.below hb4 hkg.lt
      have hz4 : (wr.alloc (.cells (ec p (.slice A ks.length c)).toArray 43)).heap.size = wr.heap.size + 1 := by simp
      have HY := Lib.hid (And.intro hb4 (And.intro hkn hz4))
      have hgl := hkg.lt
      clear hb4 hkn hz4 hkg
      generalize wr.alloc (.cells (ec p (.slice A ks.length c)).toArray 43) = w4 at *
      go_simp
      repeat' (first | ((with_reducible show Oper.wp _ _ _ _ _ _); apply stop_s; exact rfl) | go_values | go_skip | go_guarded | go_step | go_upon)
      refine Lib.hid ?_
      apply st_p
      · exact rfl
      · exact rfl
      · exact rfl
      · exact hkg4
      · exact rfl
      intro W5 hm5 hK5 hz5
      have HQ := Lib.hid (And.intro hm5 (And.intro hK5 hz5))
      clear hm5 hK5 hz5 hkg4
      go_simp
      repeat' (first | go_values | go_skip | go_guarded | go_step | go_upon)
      go_roundw
      case rel =>
        obtain ⟨hb4, hkn, hz4⟩ := HY.out
        obtain ⟨hm5, hK5, hz5⟩ := HQ.out
        obtain ⟨l1, l2, -⟩ := HJ.out
        obtain ⟨hp, hk⟩ := HP.out
        have hb45 : Below w.heap.size w W5 := l1.trans ((hb4.mono l1.size).trans (hK5.below (B := w.heap.size) (by have := l1.size; omega) fun i hi e => by omega))
        have hkn5 := hK5.bk hkn (by omega)
        have hrow : RowF treeF W5 (fun i => i < W5.heap.size ∧ i ≠ g ∧ i ≠ w.heap.size) A ks.length ks := (HA.out.2.move (Move.of_below hb4 (fun i hi => hi.1) fun i hi => hi)).move (hK5.move (fun i hi => ⟨by have := hi.1; omega, hi.2.1⟩) fun i hi => ⟨by have := hi.1; omega, hi.2⟩)
        have hone := row_oneX (F := fun i => i < W5.heap.size ∧ i ≠ g ∧ i ≠ w.heap.size) hkn5 ⟨by omega, by omega, by have := l1.size; omega⟩ HA.out.1 hrow
        subst hp hk
        rw [← nest_parts] at hone
        exact ⟨j + 1, by go_num, by omega, Lib.hid ⟨hb45, hK5.bk (l2.below hb4 (by have := l1.size; omega)) (by omega), _, 1, hm5, Nat.le_refl _, hone⟩⟩
      case measure => simp [intOf]; omega
    · have hjn' : ¬ (j : Int) < (n : Int) := by omega
      obtain rfl : j = n := by omega
      have hzr := HJ.out.zr
      repeat' (first | ((with_reducible show Oper.wp _ _ _ _ _ _); apply ld_p; exact rfl; exact rfl; assumption; go_simp) | ((with_reducible show Oper.wp _ _ _ _ _ _); apply stop_s; exact rfl) | go_values | go_skip | go_guarded | go_step | go_upon)
      refine Lib.hid ?_
      apply st_p
      · exact rfl
      · exact rfl
      · exact rfl
      · exact hzr
      · exact rfl
      intro W5 hm5 hK5 hz5
      have HQ := Lib.hid (And.intro hK5 hz5)
      clear hK5 hz5 hzr hkg
      go_simp
      repeat' (first | go_values | go_skip | go_guarded | go_step | go_upon)
      refine bodyPost_ret (res_one rfl rfl hm5 rfl) rfl ?_
      obtain ⟨hK5, hz5⟩ := HQ.out
      obtain ⟨hp, hk⟩ := HP.out
      subst hp hk
      have hb := HJ.out.bel
      exact ⟨_, rfl, ⟨A, c, rfl, HA.out.1, HA.out.2.move (hK5.move (fun i hi => ⟨hi.1, fun e => hi.2.2 e⟩) fun i hi => by have := hi.1; omega)⟩, hb.trans (hK5.below (B := w.heap.size) hb.size fun i hi e => by omega)⟩
end Go.Proofs.YtofbmlfpkcociaaDoor
