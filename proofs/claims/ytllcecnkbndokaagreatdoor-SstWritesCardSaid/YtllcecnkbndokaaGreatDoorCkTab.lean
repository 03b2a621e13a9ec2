/- sst.Check, sst.Build by their contracts. Conditions: the texts read as such; neither they are too many nor one too long; utf8.ValidString keeps its contract. -/
import Derived.Test.YtllcecnkbndokaaGreatDoorOnce
namespace Go.Proofs.YtllcecnkbndokaaGreatDoor
open Go.RowKit Go.Lib

/-- What Check tells of a table. -/
def ckTab (L : List (List UInt8)) (u : Int) : Int :=
  if 1024 < L.length then 4 else if ckT L ≠ 0 then ckT L else if (ddT L).length < L.length then 7 else if u < (L.length : Int) ∨ 2147483647 < u then 1 else 0
theorem bx1 {w w1 : World} {T : TypeId} {cs : Array Value} (hb : Below (w.alloc (.cells cs T)).heap.size (w.alloc (.cells cs T)) w1) : Bk w1 w.heap.size T cs ∧ Below w.heap.size w w1 ∧ w.heap.size < w1.heap.size := by
  have hs := hb.size
  simp at hs
  exact ⟨(Bk.new w T cs).below hb (by simp), ((Below.refl w.heap.size w).alloc (Nat.le_refl _) _).trans (hb.mono (by simp)), by omega⟩
theorem bx1' (w : World) (o : Obj) : Below w.heap.size w (w.alloc o) := (Below.refl w.heap.size w).alloc (Nat.le_refl _) o

set_option maxHeartbeats 4000000 in
set_option maxRecDepth 100000 in
theorem checkTab_any {w : World} {B n c : Nat} {A : Option Addr} {L : List (List UInt8)} {u : Int} (HV : Val w) (h : Rd w B 1 A n (L.map tv)) (hB : B ≤ w.heap.size) (hn : n ≤ 1000) (hs : ∀ l ∈ L, l.length ≤ 100000) :
    Calls Tryz.prog 12 #[.agg #[.slice A n c, .int .i64 u]] w fun e w' => e = .returned (.int .i64 (ckTab L u)) ∧ Below w.heap.size w w' := by
  have hl := h.tlen
  have hn4 : ¬ (1024 : Int) < (n : Int) := by omega
  have HCT := Lib.hid (checkTexts_any (c := c) (HV.below (bx1' w (.cells #[.slice A n c, .int .i64 u] 34))) (h.belowMono (bx1' w (.cells #[.slice A n c, .int .i64 u] 34)) hB) (by simp; omega) (by omega) hs)
  have HON := Lib.hid (fun (W : World) (hb : Below w.heap.size w W) => once_any (c := c) (h.belowMono hb hB) (Nat.le_trans hB hb.size) (by omega) hs)
  clear HV h hs
  by_cases h0 : ckT L = 0
  · have hct := HCT.out
    rw [h0] at hct
    by_cases h1 : (ddT L).length < n
    · have HF := Lib.hid (show ckTab L u = 7 by unfold ckTab; rw [if_neg (by omega), if_neg (by omega), if_pos (by omega)])
      have h1' : ((ddT L).length : Int) < (n : Int) := by omega
      clear HCT h0 hl
      generalize hq : (ddT L).length = q at *
      clear hq
      go_enter Tryz.func12, Tryz.ntmps12
      go_wp2_with fail
      refine wp_scope_fwd 0 rfl ?_
      go_wp2_with fail
      refine hct.mono ?_
      rintro e w1 ⟨rfl, hb⟩
      obtain ⟨k1, hb', hs1⟩ := bx1 hb
      clear hb hct
      have c10 := k1.cell 0
      have c11 := k1.cell 1
      go_wp2_with fail
      refine (HON.out w1 hb').mono ?_
      rintro e w2 ⟨v1, v2, rfl, o1, -, hb2⟩
      obtain ⟨A1, c1, rfl, -, -, -⟩ := own_form o1
      have k2 := k1.below hb2 hs1
      have hbF := hb'.trans (hb2.mono hb'.size)
      have d0 := k2.cell 0
      have d1 := k2.cell 1
      clear c10 c11 k1 k2 o1 hb2 hb' HON
      go_wp2
      go_step3
      refine ⟨rfl, ?_⟩
      show Code.wp _ _ _ _ _
      go_wp2
      rw [Exit.noGoto_ret]
      go_wp2
      go_ret
      exact ⟨by rw [HF.out]; rfl, hbF⟩
    · have h1' : ¬ ((ddT L).length : Int) < (n : Int) := by omega
      by_cases h2 : u < (n : Int)
      · have HF := Lib.hid (show ckTab L u = 1 by unfold ckTab; rw [if_neg (by omega), if_neg (by omega), if_neg (by omega), if_pos (by omega)])
        clear HCT h0 hl
        generalize hq : (ddT L).length = q at *
        clear hq
        go_enter Tryz.func12, Tryz.ntmps12
        go_wp2_with fail
        refine wp_scope_fwd 0 rfl ?_
        go_wp2_with fail
        refine hct.mono ?_
        rintro e w1 ⟨rfl, hb⟩
        obtain ⟨k1, hb', hs1⟩ := bx1 hb
        clear hb hct
        have c10 := k1.cell 0
        have c11 := k1.cell 1
        go_wp2_with fail
        refine (HON.out w1 hb').mono ?_
        rintro e w2 ⟨v1, v2, rfl, o1, -, hb2⟩
        obtain ⟨A1, c1, rfl, -, -, -⟩ := own_form o1
        have k2 := k1.below hb2 hs1
        have hbF := hb'.trans (hb2.mono hb'.size)
        have d0 := k2.cell 0
        have d1 := k2.cell 1
        clear c10 c11 k1 k2 o1 hb2 hb' HON
        go_wp2
        go_step3
        refine ⟨rfl, ?_⟩
        show Code.wp _ _ _ _ _
        go_wp2
        rw [Exit.noGoto_ret]
        go_wp2
        go_ret
        exact ⟨by rw [HF.out]; rfl, hbF⟩
      · by_cases h3 : 2147483647 < u
        · have HF := Lib.hid (show ckTab L u = 1 by unfold ckTab; rw [if_neg (by omega), if_neg (by omega), if_neg (by omega), if_pos (by omega)])
          clear HCT h0 hl
          generalize hq : (ddT L).length = q at *
          clear hq
          go_enter Tryz.func12, Tryz.ntmps12
          go_wp2_with fail
          refine wp_scope_fwd 0 rfl ?_
          go_wp2_with fail
          refine hct.mono ?_
          rintro e w1 ⟨rfl, hb⟩
          obtain ⟨k1, hb', hs1⟩ := bx1 hb
          clear hb hct
          have c10 := k1.cell 0
          have c11 := k1.cell 1
          go_wp2_with fail
          refine (HON.out w1 hb').mono ?_
          rintro e w2 ⟨v1, v2, rfl, o1, -, hb2⟩
          obtain ⟨A1, c1, rfl, -, -, -⟩ := own_form o1
          have k2 := k1.below hb2 hs1
          have hbF := hb'.trans (hb2.mono hb'.size)
          have d0 := k2.cell 0
          have d1 := k2.cell 1
          clear c10 c11 k1 k2 o1 hb2 hb' HON
          go_wp2
          go_step3
          refine ⟨rfl, ?_⟩
          show Code.wp _ _ _ _ _
          go_wp2
          rw [Exit.noGoto_ret]
          go_wp2
          go_ret
          exact ⟨by rw [HF.out]; rfl, hbF⟩
        · have HF := Lib.hid (show ckTab L u = 0 by unfold ckTab; rw [if_neg (by omega), if_neg (by omega), if_neg (by omega), if_neg (by omega)])
          clear HCT h0 hl
          generalize hq : (ddT L).length = q at *
          clear hq
          go_enter Tryz.func12, Tryz.ntmps12
          go_wp2_with fail
          refine wp_scope_fwd 0 rfl ?_
          go_wp2_with fail
          refine hct.mono ?_
          rintro e w1 ⟨rfl, hb⟩
          obtain ⟨k1, hb', hs1⟩ := bx1 hb
          clear hb hct
          have c10 := k1.cell 0
          have c11 := k1.cell 1
          go_wp2_with fail
          refine (HON.out w1 hb').mono ?_
          rintro e w2 ⟨v1, v2, rfl, o1, -, hb2⟩
          obtain ⟨A1, c1, rfl, -, -, -⟩ := own_form o1
          have k2 := k1.below hb2 hs1
          have hbF := hb'.trans (hb2.mono hb'.size)
          have d0 := k2.cell 0
          have d1 := k2.cell 1
          clear c10 c11 k1 k2 o1 hb2 hb' HON
          go_wp2
          rw [jump_ret]
          go_wp2
          go_ret
          exact ⟨by rw [HF.out]; rfl, hbF⟩
  · have HF := Lib.hid (show ckTab L u = ckT L by unfold ckTab; rw [if_neg (by omega), if_pos h0])
    have hb0 : (ckT L != 0) = true := by simpa using h0
    have hct := HCT.out
    clear HCT HON hl
    rw [HF.out]
    clear HF h0
    generalize ckT L = E at *
    go_enter Tryz.func12, Tryz.ntmps12
    go_wp2_with fail
    refine wp_scope_fwd 0 rfl ?_
    go_wp2_with fail
    refine hct.mono ?_
    rintro e w1 ⟨rfl, hb⟩
    obtain ⟨-, hb', -⟩ := bx1 hb
    clear hb hct
    go_wp2
    go_step3
    refine ⟨rfl, ?_⟩
    show Code.wp _ _ _ _ _
    go_wp2
    rw [Exit.noGoto_ret]
    go_wp2
    go_ret
    exact ⟨rfl, hb'⟩
end Go.Proofs.YtllcecnkbndokaaGreatDoor
