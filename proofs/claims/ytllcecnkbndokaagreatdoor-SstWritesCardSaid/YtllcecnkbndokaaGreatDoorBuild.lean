/- sst.Build by its contract. Conditions: the texts read as such; neither they are too many nor one too long; utf8.ValidString keeps its contract. -/
import Derived.Test.YtllcecnkbndokaaGreatDoorCkTab
import Derived.Test.YtllcecnkbndokaaGreatDoorU
namespace Go.Proofs.YtllcecnkbndokaaGreatDoor
open Go.RowKit Go.Lib

/-- What Build tells. -/
def bT (L : List (List UInt8)) : List (List UInt8) := if ckT L = 0 then ddT L else []
def bU (L : List (List UInt8)) : Int := if ckT L = 0 then (L.length : Int) else 0
def bA (L : List (List UInt8)) : List Nat := if ckT L = 0 then atT L else []

set_option maxHeartbeats 4000000 in
set_option maxRecDepth 100000 in
theorem build_any {w : World} {B n c : Nat} {A : Option Addr} {L : List (List UInt8)} (HV : Val w) (h : Rd w B 1 A n (L.map tv)) (hB : B ≤ w.heap.size) (hn : n ≤ 1000) (hs : ∀ l ∈ L, l.length ≤ 100000) :
    Calls Tryz.prog 23 #[.slice A n c] w fun e w' => ∃ xv av, e = .returned (.tuple #[.agg #[xv, .int .i64 (bU L)], av, .int .i64 (ckT L)]) ∧ w'.ownsRow w.heap.size 9 1 xv (bT L).length ((bT L).map tv) ∧ w'.ownsRow w.heap.size 3 1 av (bA L).length ((bA L).map nv) ∧ Below w.heap.size w w' := by
  have hl := h.tlen
  have hbx := two_below w (.cells #[.slice none 0 0, .int .i64 0] 34) (.cells #[.slice none 0 0, .int .i64 0] 34)
  have HCT := Lib.hid (checkTexts_any (c := c) (HV.below hbx) (h.belowMono hbx hB) (Nat.le_trans hB hbx.size) (by omega) hs)
  have HON := Lib.hid (fun (W : World) (hb : Below w.heap.size w W) => once_any (c := c) (h.belowMono hb hB) (Nat.le_trans hB hb.size) (by omega) hs)
  have hdl := dd_len L
  clear HV h hs hbx
  by_cases h0 : ckT L = 0
  · have hct := HCT.out
    rw [h0] at hct
    have HF := Lib.hid (show bT L = ddT L ∧ bU L = (n : Int) ∧ bA L = atT L by unfold bT bU bA; rw [if_pos h0, if_pos h0, if_pos h0, hl]; exact ⟨rfl, rfl, rfl⟩)
    have HA := Lib.hid (show (atT L).length = n by rw [atT_len, hl])
    have hq4 : ¬ (1024 : Int) < ((ddT L).length : Int) := by omega
    rw [h0]
    clear HCT h0 hdl
    generalize hq : (ddT L).length = q at *
    have HQ := Lib.hid hq
    clear hq hl
    go_enter Tryz.func23, Tryz.ntmps23
    go_wp2_with fail
    refine wp_scope_fwd 0 rfl ?_
    go_wp2_with fail
    refine hct.mono ?_
    rintro e w1 ⟨rfl, hb⟩
    obtain ⟨k1, k2, hb', s1⟩ := two_boxes hb
    clear hb hct
    have c20 := k2.cell 0
    have c21 := k2.cell 1
    have z20 := k2.frozen 0
    have z21 := k2.frozen 1
    go_wp2_with fail
    have j1 := Keep.bk (((Keep.refl (fun i => i = w.heap.size + 1) w1).setCell (p := ⟨w.heap.size + 1, 1, none⟩) (fun _ => rfl) (.int .i64 n))) k1 (by omega)
    have j2 := k2.set_ 1 (.int .i64 n)
    have hbS : Below w.heap.size w (w1.setCell ⟨w.heap.size + 1, 1, none⟩ (.int .i64 n)) := hb'.setCell (by show _ ≤ _ + 1; omega) _
    have sS : w.heap.size + 1 < (w1.setCell ⟨w.heap.size + 1, 1, none⟩ (.int .i64 n)).heap.size := j2.lt
    generalize hW2 : w1.setCell ⟨w.heap.size + 1, 1, none⟩ (.int .i64 n) = w2 at *
    clear hW2 c20 c21 z20 z21 k1 k2 hb'
    refine (HON.out w2 hbS).mono ?_
    rintro e w3 ⟨v1, v2, rfl, o1, o2, hb3⟩
    obtain ⟨A1, c1, rfl, -, -, -⟩ := own_form o1
    obtain ⟨A2, c2, rfl, -, -, -⟩ := own_form o2
    have m1 := j1.below hb3 (by omega)
    have m2 := j2.below hb3 (by omega)
    have hbF := hbS.trans (hb3.mono hbS.size)
    have s3 := hb3.size
    clear j1 j2 hb3 HON
    have d0 := m1.cell 0
    have d1 := m1.cell 1
    have y0 := m1.frozen 0
    have y1 := m1.frozen 1
    have e0 := m2.cell 0
    have e1 := m2.cell 1
    have f0 := m2.frozen 0
    have f1 := m2.frozen 1
    go_wp2_with fail
    rw [jump_ret]
    have hS : ∀ (v : Value) (m : Nat) (t : TypeId) (xs : List Value), w3.ownsRow w2.heap.size t 1 v m xs → (((w3.setCell ⟨w.heap.size + 1, 0, none⟩ (.slice A1 q c1)).setCell ⟨w.heap.size, 0, none⟩ (.slice A1 q c1)).setCell ⟨w.heap.size, 1, none⟩ (.int .i64 n)).ownsRow w.heap.size t 1 v m xs := fun v m t xs ho =>
      own_mono (ownsRow_setCell_below (ownsRow_setCell_below (ownsRow_setCell_below ho (a := ⟨w.heap.size + 1, 0, none⟩) (by show w.heap.size + 1 < w2.heap.size; omega) _) (a := ⟨w.heap.size, 0, none⟩) (by show w.heap.size < w2.heap.size; omega) _) (a := ⟨w.heap.size, 1, none⟩) (by show w.heap.size < w2.heap.size; omega) _) hbS.size
    have p1 := hS _ _ _ _ o1
    have p2 := hS _ _ _ _ o2
    have hbG := ((hbF.setCell (p := ⟨w.heap.size + 1, 0, none⟩) (by show w.heap.size ≤ w.heap.size + 1; omega) (.slice A1 q c1)).setCell (p := ⟨w.heap.size, 0, none⟩) (by show w.heap.size ≤ w.heap.size; omega) (.slice A1 q c1)).setCell (p := ⟨w.heap.size, 1, none⟩) (by show w.heap.size ≤ w.heap.size; omega) (.int .i64 n)
    refine bodyPost_ret (v := .tuple #[.agg #[.slice A1 q c1, .int .i64 n], .slice A2 n c2, .int .i64 0]) (by simp [results, Tryz.results23, go_sem, d0, d1, e0, e1]) rfl ?_
    rw [HF.out.1, HF.out.2.1, HF.out.2.2, HQ.out, HA.out]
    exact ⟨_, _, rfl, p1, p2, hbG⟩
  · have HF := Lib.hid (show bT L = [] ∧ bU L = 0 ∧ bA L = [] by unfold bT bU bA; rw [if_neg h0, if_neg h0, if_neg h0]; exact ⟨rfl, rfl, rfl⟩)
    have hb0 : (ckT L != 0) = true := by simpa using h0
    have hct := HCT.out
    clear HCT HON hl hdl h0
    rw [HF.out.1, HF.out.2.1, HF.out.2.2]
    clear HF
    generalize ckT L = E at *
    go_enter Tryz.func23, Tryz.ntmps23
    go_wp2_with fail
    refine wp_scope_fwd 0 rfl ?_
    go_wp2_with fail
    refine hct.mono ?_
    rintro e w1 ⟨rfl, hb⟩
    obtain ⟨k1, k2, hb', s1⟩ := two_boxes hb
    clear hb hct
    have d0 := k1.cell 0
    have d1 := k1.cell 1
    have y0 := k1.frozen 0
    have y1 := k1.frozen 1
    go_wp2
    go_step3
    refine ⟨rfl, ?_⟩
    show Code.wp _ _ _ _ _
    go_wp2
    rw [Exit.noGoto_ret]
    refine bodyPost_ret (v := .tuple #[.agg #[.slice none 0 0, .int .i64 0], .slice none 0 0, .int .i64 E]) (by simp [results, Tryz.results23, go_sem, d0, d1]) rfl ?_
    exact ⟨_, _, rfl, World.ownsRow_nil _ _ _ _, World.ownsRow_nil _ _ _ _, (hb'.setCell (by show w.heap.size ≤ w.heap.size; omega) _).setCell (by show w.heap.size ≤ w.heap.size; omega) _⟩
end Go.Proofs.YtllcecnkbndokaaGreatDoor
