/- cashbooklaw10's few, Few, by their contracts: what they take has few nodes, short texts. Condition: the formula reads as a tree. -/
import Derived.Test.YtofbmlfpkcociaaDoorMs
set_option linter.unusedVariables false
set_option linter.unusedSimpArgs false
namespace Go.Proofs.YtofbmlfpkcociaaDoor
open Go.RowKit

/-- What few tells: of what it takes, how many there are, that no text is long. -/
def FwOk (w : World) (g : Nat) (n0 most : Nat) (t : Tr) (e : Ending) (W : World) : Prop :=
  ∃ (b : Bool) (n' : Nat), e = .returned (.bool b) ∧ Bk W g 3 #[.int .i64 n'] ∧ Keep (fun i => i = g) w W ∧ n' ≤ most + 1 ∧ n0 ≤ n' ∧ (b = true → n' = n0 + cntT t ∧ n' ≤ most ∧ ∀ q ∈ ndT t, q.1.vt.size ≤ 3000)

theorem keep_row {w W : World} {g n : Nat} {A : Option Addr} {L : List Tr} {B : Nat} (h : RowF treeF w (· < B) A n L) (hB : B ≤ w.heap.size) (hg : B ≤ g) (hK : Keep (fun i => i = g) w W) : RowF treeF W (· < B) A n L :=
  h.move (hK.move (fun i hi => ⟨by omega, by omega⟩) fun _ h => h)

set_option maxRecDepth 20000 in
set_option maxHeartbeats 4000000 in
theorem few_any {B g most : Nat} (hm : most ≤ 10000) (hg : B ≤ g) : ∀ (deep : Nat), deep ≤ 40 → ∀ (w : World) (p : Pay) (ks : List Tr) (A : Option Addr) (c n0 : Nat), B ≤ w.heap.size → ks.length ≤ c → RowF treeF w (· < B) A ks.length ks → Bk w g 3 #[.int .i64 n0] → n0 ≤ most →
    Calls Tryd.prog 19 #[.agg (ec p (.slice A ks.length c)).toArray, .int .i64 deep, .int .i64 most, .pointer (some ⟨g, 0, none⟩)] w fun e W => FwOk w g n0 most (.mk p ks) e W := by
  intro deep
  induction deep with
  | zero =>
    intro _ w p ks A c n0 hBw hc hr hk hn
    obtain ⟨w1, hw1⟩ : ∃ w1, w1 = w.alloc (.cells (ec p (.slice A ks.length c)).toArray 32) := ⟨_, rfl⟩
    have hb1 : Below w.heap.size w w1 := by rw [hw1]; exact bel0 _ _
    have hk1 : Bk (w.alloc (.cells (ec p (.slice A ks.length c)).toArray 32)) g 3 #[.int .i64 n0] := hk.alloc _
    have c0 := hk1.cell 0
    have f0 := hk1.frozen 0
    have hfin := hk1.set_ 0 (.int .i64 (n0 + 1))
    have HB := Lib.hid (And.intro hb1 (And.intro hk.lt (And.intro hk1 (And.intro hfin hw1))))
    clear hb1 hk1 hfin hw1 hk
    go_enter Tryd.func19, Tryd.ntmps19
    repeat' (first | go_values | go_skip | go_guarded | go_step | go_upon)
    go_ret
    obtain ⟨hb1, hlt, hk1, hfin, hw1⟩ := HB.out
    refine ⟨false, n0 + 1, rfl, by simpa using hfin, ?_, by omega, by omega, fun h => by cases h⟩
    rw [← hw1]
    exact ((Keep.of_below (S := fun i => i = g) hb1 fun i hi h => by omega).trans ((Keep.refl (fun i => i = g) w1).setCell (p := ⟨g, 0, none⟩) (fun _ => rfl) _) fun _ _ h => h)
  | succ deep ih =>
    intro hd w p ks A c n0 hBw hc hr hk hn
    obtain ⟨w1, hw1⟩ : ∃ w1, w1 = w.alloc (.cells (ec p (.slice A ks.length c)).toArray 32) := ⟨_, rfl⟩
    have hb1 : Below w.heap.size w w1 := by rw [hw1]; exact bel0 _ _
    have hk1 : Bk (w.alloc (.cells (ec p (.slice A ks.length c)).toArray 32)) g 3 #[.int .i64 n0] := hk.alloc _
    have hlt := hk.lt
    have hbx : Bk w1 w.heap.size 32 (ec p (.slice A ks.length c)).toArray := by rw [hw1]; exact Bk.new _ _ _
    have c0 := hk1.cell 0
    have f0 := hk1.frozen 0
    have hfin : Bk (w1.setCell ⟨g, 0, none⟩ (.int .i64 ((n0 : Int) + 1))) g 3 #[.int .i64 ((n0 : Int) + 1)] := by
      rw [hw1]
      simpa using hk1.set_ 0 (.int .i64 ((n0 : Int) + 1))
    have hKs : Keep (fun i => i = g) w1 (w1.setCell ⟨g, 0, none⟩ (.int .i64 ((n0 : Int) + 1))) := (Keep.refl (fun i => i = g) w1).setCell (p := ⟨g, 0, none⟩) (fun _ => rfl) _
    have hKw : Keep (fun i => i = g) w (w1.setCell ⟨g, 0, none⟩ (.int .i64 ((n0 : Int) + 1))) := (Keep.of_below (S := fun i => i = g) hb1 fun i hi h => by omega).trans hKs fun _ _ h => h
    have hbx2 := hKs.bk hbx (by omega)
    have HX := Lib.hid (And.intro hw1 (And.intro hfin (And.intro hKw (And.intro hbx2 hr))))
    clear hb1 hk1 hfin hKs hKw hbx hbx2 hr hw1 hk
    go_enter Tryd.func19, Tryd.ntmps19
    repeat' (first | ((with_reducible show Oper.wp _ _ _ _ _ _); apply stop_i; exact rfl) | go_values | go_skip | go_guarded | go_step | go_upon)
    obtain ⟨hw1, hfin, hKw, hbx2, hr⟩ := HX.out
    rw [← hw1] at c0 f0 ⊢
    have d0 := hfin.cell 0
    have d4 : (w1.setCell ⟨g, 0, none⟩ (.int .i64 ((n0 : Int) + 1))).cell? ⟨w.heap.size, 4, none⟩ = some (.string p.vt) := hbx2.cell 4
    have d17 : (w1.setCell ⟨g, 0, none⟩ (.int .i64 ((n0 : Int) + 1))).cell? ⟨w.heap.size, 17, none⟩ = some (.slice A ks.length c) := hbx2.cell 17
    have hdz : ((deep : Int) + 1 == 0) = false := by rw [beq_eq_false_iff_ne]; omega
    have hcast : ((deep + 1 : Nat) : Int) = (deep : Int) + 1 := by omega
    clear hw1 hfin hKw hbx2 hr
    refine Lib.hid ?_
    by_cases hA : most < n0 + 1
    · have hA' : (most : Int) < (n0 : Int) + 1 := by omega
      go_simp
      repeat' (first | go_values | go_skip | go_guarded | go_step | go_upon)
      go_ret
      obtain ⟨hw1, hfin, hKw, hbx2, hr⟩ := HX.out
      exact ⟨false, n0 + 1, rfl, hfin, hKw, by omega, by omega, fun h => by cases h⟩
    · have hA' : ¬ (most : Int) < (n0 : Int) + 1 := by omega
      by_cases hB : 3000 < p.vt.size
      · have hB' : (3000 : Int) < (p.vt.size : Int) := by omega
        go_simp
        repeat' (first | go_values | go_skip | go_guarded | go_step | go_upon)
        go_ret
        obtain ⟨hw1, hfin, hKw, hbx2, hr⟩ := HX.out
        exact ⟨false, n0 + 1, rfl, hfin, hKw, by omega, by omega, fun h => by cases h⟩
      · have hB' : ¬ (3000 : Int) < (p.vt.size : Int) := by omega
        go_simp
        repeat' (first | go_values | go_skip | go_guarded | go_step | go_upon)
        obtain ⟨hw1, hfin, hKw, hbx2, hr⟩ := HX.out
        have hz2 : (w1.setCell ⟨g, 0, none⟩ (.int .i64 ((n0 : Int) + 1))).heap.size = w.heap.size + 1 := by rw [hw1]; simp [World.setCell]
        have hr2 := keep_row hr hBw hg hKw
        clear hw1 c0 f0 d0 d4 d17 HX hr
        generalize w1.setCell ⟨g, 0, none⟩ (.int .i64 ((n0 : Int) + 1)) = w2 at *
        have HY := Lib.hid (And.intro hKw (And.intro hbx2 (And.intro hr2 hz2)))
        clear hKw hbx2 hr2 hz2
        go_loopw [9] (fun i wr => ∃ j nj : Nat, i = .int .i64 j ∧ j ≤ ks.length ∧ Hid (Bk wr g 3 #[.int .i64 nj] ∧ Keep (fun i => i = g) w2 wr ∧ nj = n0 + 1 + cntL (ks.take j) ∧ nj ≤ most ∧ ∀ q ∈ ndL (ks.take j), q.1.vt.size ≤ 3000)) (fun i _ => ks.length - (intOf i).toNat)
        case atStart => exact ⟨0, n0 + 1, rfl, Nat.zero_le _, Lib.hid ⟨by simpa using hfin, Keep.refl _ _, by simp [cntL], by omega, by simp [ndL]⟩⟩
        case round =>
          obtain ⟨j, nj, rfl, hj, HL⟩ := hrel
          have c17 : wr.cell? ⟨w.heap.size, 17, none⟩ = some (.slice A ks.length c) := (HL.out.2.1.bk HY.out.2.1 (by omega)).cell 17
          have hjm : j ≤ 10000 := by
            have h1 := cnt_len (ks.take j)
            rw [List.length_take, Nat.min_eq_left hj] at h1
            have := HL.out.2.2.1
            have := HL.out.2.2.2.1
            omega
          clear hfin
          by_cases hjl : j < ks.length
          · have hjl' : (j : Int) < (ks.length : Int) := by omega
            have hj0 : (0 : Int) ≤ (j : Int) := by omega
            obtain ⟨a, rfl, hab, hall⟩ := HY.out.2.2.1.at_ (by omega)
            obtain ⟨t, ht⟩ : ∃ t, ks[j]? = some t := ⟨_, List.getElem?_eq_getElem hjl⟩
            obtain ⟨p', ks'⟩ := t
            obtain ⟨cs, hcs, hcell⟩ := hall j (.mk p' ks') ht
            obtain ⟨A', c', rfl, hc', hkr⟩ := tree_mk.1 (show LiT w2 (· < B) (.mk p' ks') cs from hcs)
            have HC := Lib.hid (And.intro hcell (And.intro hkr (And.intro ht hab)))
            clear hall hcs hcell hkr ht hab
            repeat' (first | ((with_reducible show Oper.wp _ _ _ _ _ _); apply stop_r; exact rfl) | go_values | go_skip | go_guarded | go_step | go_upon)
            refine Lib.hid ?_
            apply ld_rm (p := p') (k := .slice A' ks'.length c')
            · exact rfl
            · exact rfl
            · intro q u hu
              rw [add_add]
              exact ((HL.out.2.1.move (F := (· < B)) (fun i hi => ⟨by have := HY.out.2.2.2; omega, by omega⟩) fun _ h => h).cell (by rw [add_block]; exact HC.out.2.2.2)).trans (HC.out.1 q u hu)
            go_simp
            repeat' (first | go_values | go_skip | go_guarded | go_step | go_upon)
            have hsz : w2.heap.size ≤ wr.heap.size := HL.out.2.1.size
            refine (ih (by omega) wr p' ks' A' c' nj (by have := HY.out.2.2.2; omega) hc' (keep_row HC.out.2.1 (by have := HY.out.2.2.2; omega) hg HL.out.2.1) HL.out.1 HL.out.2.2.2.1).mono ?_
            rintro e W3 ⟨b, n', rfl, q1, q2, q3, q4, q5⟩
            have HQ3 := Lib.hid (And.intro q1 (And.intro q2 (And.intro q3 (And.intro q4 q5))))
            clear q1 q2 q3 q4 q5
            dsimp only
            cases b with
            | false =>
              repeat' (first | go_values | go_skip | go_guarded | go_step | go_upon)
              go_ret
              obtain ⟨q1, q2, q3, q4, q5⟩ := HQ3.out
              obtain ⟨l1, l2, l3, l4, l5⟩ := HL.out
              exact ⟨false, n', rfl, q1, (HY.out.1.trans l2 fun _ _ h => h).trans q2 fun _ _ h => h, q3, by omega, fun h => by cases h⟩
            | true =>
              repeat' (first | go_values | go_skip | go_guarded | go_step | go_upon)
              go_roundw
              case rel =>
                obtain ⟨q1, q2, q3, q4, q5⟩ := HQ3.out
                obtain ⟨l1, l2, l3, l4, l5⟩ := HL.out
                obtain ⟨r1, r2, r3⟩ := q5 rfl
                have ht := HC.out.2.2.1
                refine ⟨j + 1, n', by go_num, by omega, Lib.hid ⟨q1, l2.trans q2 fun _ _ h => h, ?_, r2, ?_⟩⟩
                · rw [List.take_add_one, ht, Option.toList_some, cnt_app]
                  simp only [cntL]
                  omega
                · intro q hq
                  rw [List.take_add_one, ht, Option.toList_some, nd_app, List.mem_append] at hq
                  rcases hq with hq | hq
                  · exact l5 q hq
                  · exact r3 q (by simpa [ndL] using hq)
              case measure => simp [intOf]; omega
          · have hjl' : ¬ (j : Int) < (ks.length : Int) := by omega
            repeat' (first | go_values | go_skip | go_guarded | go_step | go_upon)
            go_ret
            obtain rfl : j = ks.length := by omega
            obtain ⟨l1, l2, l3, l4, l5⟩ := HL.out
            rw [List.take_length] at l3 l5
            refine ⟨true, nj, rfl, l1, HY.out.1.trans l2 fun _ _ h => h, by omega, by omega, fun _ => ⟨?_, l4, ?_⟩⟩
            · simp only [cntT]
              omega
            · intro q hq
              simp only [ndT, List.mem_cons] at hq
              rcases hq with rfl | hq
              · show p.vt.size ≤ 3000
                omega
              · exact l5 q hq

set_option maxRecDepth 20000 in
set_option maxHeartbeats 1000000 in
theorem Few_any {w : World} {p : Pay} {ks : List Tr} {A : Option Addr} {c most : Nat} (h : AtT w p ks A c) (hm : most ≤ 10000) :
    Calls Tryd.prog 7 #[.agg (ec p (.slice A ks.length c)).toArray, .int .i64 most] w fun e W => ∃ b : Bool, e = .returned (.bool b) ∧ Below w.heap.size w W ∧ (b = true → cntT (.mk p ks) ≤ most ∧ ∀ q ∈ ndT (.mk p ks), q.1.vt.size ≤ 3000) := by
  obtain ⟨w1, hw1⟩ : ∃ w1, w1 = w.alloc (.cells (ec p (.slice A ks.length c)).toArray 32) := ⟨_, rfl⟩
  have hb1 : Below w.heap.size w w1 := by rw [hw1]; exact bel0 _ _
  have hbx : Bk w1 w.heap.size 32 (ec p (.slice A ks.length c)).toArray := by rw [hw1]; exact Bk.new _ _ _
  have hz1 : w1.heap.size = w.heap.size + 1 := by rw [hw1]; simp
  have h1 := h.below hb1
  have hk2 := Bk.new w1 3 #[.int .i64 0]
  have hb2 := bel0 w1 (.cells #[.int .i64 0] 3)
  have hbx2 := hbx.below hb2 hbx.lt
  go_enter Tryd.func7, Tryd.ntmps7
  repeat' (first | ((with_reducible show Oper.wp _ _ _ _ _ _); apply stop_r; exact rfl) | go_values | go_skip | go_guarded | go_step | go_upon)
  rw [← hw1]
  rw [hz1] at hk2
  have HX := Lib.hid (And.intro hw1 (And.intro hb1 (And.intro hb2 h1)))
  clear hw1 hb1 hb2 h1
  generalize w1.alloc (.cells #[.int .i64 0] 3) = w2 at *
  refine Lib.hid ?_
  apply ld_r
  · exact rfl
  · exact rfl
  · exact hbx2
  go_simp
  repeat' (first | go_values | go_skip | go_guarded | go_step | go_upon)
  obtain ⟨hw1, hb1, hb2, h1⟩ := HX.out
  have hbb : Below w.heap.size w w2 := hb1.trans (hb2.mono hb1.size)
  refine (few_any hm (B := w.heap.size) (g := w.heap.size + 1) (by omega) 40 (Nat.le_refl _) w2 p ks A c 0 hbb.size h.1 (h.2.below hbb (Nat.le_refl _)) hk2 (Nat.zero_le _)).mono ?_
  rintro e W3 ⟨b, n', rfl, q1, q2, q3, q4, q5⟩
  have HQ := Lib.hid (And.intro q2 q5)
  clear q1 q2 q3 q4 q5 hk2 hbx2 hw1 hb2 h1 hb1 HX
  dsimp only
  repeat' (first | go_values | go_skip | go_guarded | go_step | go_upon)
  go_ret
  refine ⟨b, rfl, hbb.trans (HQ.out.1.below (B := w.heap.size) hbb.size fun i hi e => by omega), fun hb => ?_⟩
  obtain ⟨r1, r2, r3⟩ := HQ.out.2 hb
  exact ⟨by omega, r3⟩
end Go.Proofs.YtofbmlfpkcociaaDoor
