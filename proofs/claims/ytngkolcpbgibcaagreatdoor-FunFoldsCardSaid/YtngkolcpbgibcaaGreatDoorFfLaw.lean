/- cashbooklaw11.FunFolds returns true. Conditions: the tables are laid; the row reads, cell by cell, as numbers of 32 bits. -/
import Derived.Test.YtngkolcpbgibcaaGreatDoorFfL
set_option linter.unusedVariables false
set_option linter.unusedSimpArgs false
namespace Go.Proofs.YtngkolcpbgibcaaGreatDoor
open Go.RowKit Go.Lib
set_option maxRecDepth 20000 in
set_option maxHeartbeats 8000000 in
theorem folds_out {w : World} (HFn : FnT w) (HTn : Tens w) (HVl : Val w) {A : Option Addr} {c N : Nat} (h : N = 0 ∨ 28 < N) :
    Calls Tryz.prog 6 #[.slice A N c] w fun e W => e = .returned (.bool true) ∧ Below w.heap.size w W := by
  have HK := Lib.hid (fun (W : World) (hb : Below w.heap.size w W) => known_any (HFn.below hb) (HTn.below hb) (HVl.below hb)); have HB := Lib.hid (BX.start w); clear HFn HTn HVl
  rcases h with rfl | h
  · go_enter Tryz.func6, Tryz.ntmps6
    repeat' (first | go_values | go_skip | go_guarded | go_step | go_upon)
    refine (HK.out _ HB.out.bel).mono ?_; rintro e W1 ⟨rfl, hb⟩; have HB := Lib.hid (HB.out.call hb); clear hb; dsimp only
    repeat' (first | go_values | go_skip | go_guarded | go_step | go_upon)
    go_ret; exact ⟨rfl, HB.out.bel⟩
  · have h0 : ¬ ((N : Int) = 0) := by omega
    have h28 : (28 : Int) < (N : Int) := by omega
    clear h; go_enter Tryz.func6, Tryz.ntmps6
    repeat' (first | go_values | go_skip | go_guarded | go_step | go_upon)
    refine (HK.out _ HB.out.bel).mono ?_; rintro e W1 ⟨rfl, hb⟩; have HB := Lib.hid (HB.out.call hb); clear hb; dsimp only
    repeat' (first | go_values | go_skip | go_guarded | go_step | go_upon)
    go_ret; exact ⟨rfl, HB.out.bel⟩
theorem sh_z {k : Int} (h : ¬ (k = 10 ∨ k = 23 ∨ k = 25)) (h2 : ¬ k = 24) (l : List Int) : shB k (l.map fun z => (false, [VX.num z 0])) = true := by
  unfold shB; rw [if_neg h, if_neg h2, List.all_eq_true]; intro a ha; obtain ⟨z, _, rfl⟩ := List.mem_map.1 ha; rfl
theorem tk_z {l : List Int} (hl : l.length ≤ 28) {k : Nat} (hk : k < 5) : takesB k (l.map fun z => (false, [VX.num z 0])) = true := by
  have hlen : ((l.map fun z => (false, [VX.num z 0])).length : Int) ≤ 9223372036854775807 := by rw [List.length_map]; omega
  rcases (show k = 0 ∨ k = 1 ∨ k = 2 ∨ k = 3 ∨ k = 4 by omega) with rfl | rfl | rfl | rfl | rfl
  all_goals
    rw [takes_args rfl (show fnTab[_]? = some _ from rfl) (by show (0 : Int) ≤ _; omega) hlen]; exact sh_z (by decide) (by decide) l
theorem area_z (l : List Int) : pickL [1] [(true, zv l)] = zv l := by
  show pickA [1] (true, zv l) ++ [] = zv l
  rw [List.append_nil]; unfold pickA; refine List.filter_eq_self.2 fun x hx => ?_; obtain ⟨z, _, rfl⟩ := List.mem_map.1 hx; rfl
theorem cmp_z {m lo : Int} {s : Nat} : cmpX (.num m s) (.num lo 0) = cmp (val m s) (val lo 0) := rfl
theorem foldsLaw {w : World} (HF : FnT w) (HT : Tens w) (HV : Val w) {A : Option Addr} {c N : Nat} {l : List Int} (hl : l.length = N) (hz : zp l)
    (hsrc : 0 < N → ∃ aa, A = some aa ∧ aa.block < w.heap.size ∧ ∀ (i : Nat) (z : Int), l[i]? = some z → w.cell? (aa.add i) = some (.int .i32 z)) :
    Calls Tryz.prog 6 #[.slice A N c] w fun e W => e = .returned (.bool true) ∧ Below w.heap.size w W := by
  by_cases h0 : N = 0 ∨ 28 < N
  · exact folds_out HF HT HV h0
  · have hN0 : 0 < N := by omega
    have hN28 : N ≤ 28 := by omega
    obtain ⟨aa, rfl, hb, hc⟩ := hsrc hN0; refine folds_walk HF HT HV hl hN0 hN28 hz (fun W hW i z hi => (hW.cell (by rw [add_block]; exact hb)).trans (hc i z hi)) fun lo hi mlo mhi hlo hhi => ?_; have hlen : l.length ≤ 28 := by omega
    have hl0 : 0 < l.length := by omega
    have hrl : l.reverse.length ≤ 28 := by rw [List.length_reverse]; exact hlen
    obtain ⟨m, s, hv, hg, q1, q2⟩ := avg_z hz hl0 hlen hlo hhi mlo mhi
    have pg : ∀ z ∈ l, PG (.num z 0) := fun z hm => by
      have := hz z hm; exact pg_num (gd_z (by omega) (by omega))
    have ag : ∀ t : List Int, t.length ≤ 28 → (∀ z ∈ t, z ∈ l) → AG (t.map fun z => (false, [VX.num z 0])) := fun t ht hm => by
      have h := ag_ones (l := zv t) (by unfold zv; rw [List.length_map]; omega) fun y hy => by
        obtain ⟨z, hz', rfl⟩ := List.mem_map.1 hy; exact pg z (hm z hz')
      unfold zv at h; rw [List.map_map] at h; exact h
    have aga := ag l hlen fun _ h => h; have agb := ag l.reverse hrl fun _ h => List.mem_reverse.1 h; have ea : (l.map fun z => (false, [VX.num z 0])).length = N := by rw [List.length_map]; exact hl
    have eb : (l.reverse.map fun z => (false, [VX.num z 0])).length = N := by rw [List.length_map, List.length_reverse]; exact hl
    have pv : PG (.num m s) := pg_num hg; have plo := pg lo mlo; have phi := pg hi mhi; refine ⟨.num m s, cmpX (.num m s) (.num lo 0), cmpX (.num m s) (.num hi 0), ⟨fun W hW A c' h => ?_, fun W hW A c' h => ?_, fun W hW A c' h => ?_, fun W hW A c' h => ?_, fun W hW A c' h => ?_, fun W hW A c' h => ?_, fun W hW A c' h => ?_, rfl, fun W => ?_, fun W => ?_, ?_, ?_⟩⟩
    · rw [← ea] at h ⊢; have := ap_4 (HF.below hW) (c := c') h aga (tk_z hlen (k := 4) (by omega)); rw [pick_z, hv] at this; exact this
    · rw [← ea] at h ⊢; have := ap_0 (HF.below hW) (c := c') h aga (tk_z hlen (k := 0) (by omega)); rw [pick_z, sum_z hz hlen] at this; exact this
    · rw [← eb] at h ⊢; have := ap_0 (HF.below hW) (c := c') h agb (tk_z hrl (k := 0) (by omega)); rw [pick_z, sum_z (zp_rev hz) hrl, tot_rev] at this; exact this
    · have := ap_0 (HF.below hW) (c := c') (args := [(true, zv l)]) h (ag_of (by simp) fun a ha => by
        rw [List.mem_singleton] at ha; subst ha; refine ⟨by show (zv l).length ≤ _; unfold zv; rw [List.length_map]; omega, fun y hy => ?_⟩; obtain ⟨z, hz', rfl⟩ := List.mem_map.1 hy
        exact pg z hz') (by kernel_rfl)
      rw [area_z, sum_z hz hlen] at this; exact this
    · rw [← ea] at h ⊢; have := ap_1 (HF.below hW) (c := c') h aga (tk_z hlen (k := 1) (by omega)); rw [pick_z, min_z hl0 mlo hlo] at this; exact this
    · rw [← eb] at h ⊢; have := ap_2 (HF.below hW) (c := c') h agb (tk_z hrl (k := 2) (by omega)); rw [pick_z, max_z (by rw [List.length_reverse]; exact hl0) (List.mem_reverse.2 mhi) fun y hy => hhi y (List.mem_reverse.1 hy)] at this; exact this
    · rw [← ea] at h ⊢; have := ap_3 (HF.below hW) (c := c') h aga (tk_z hlen (k := 3) (by omega)); rw [pick_z, cnt_z] at this; rw [ea, ← hl]; rw [ea, ← hl] at this; exact this
    · have := cmpx_any (w := W) (a := .num m s) (b := .num lo 0) pv.1.1 plo.1.1 trivial trivial; rw [xval_vc, xval_vc] at this; exact this
    · have := cmpx_any (w := W) (a := .num m s) (b := .num hi 0) pv.1.1 phi.1.1 trivial trivial; rw [xval_vc, xval_vc] at this; exact this
    · rw [cmp_z, val_whole]; unfold cmp; rw [if_neg (by omega)]
      split <;> omega
    · rw [cmp_z, val_whole]; unfold cmp
      split
      · omega
      · rw [if_pos (by omega)]; omega
end Go.Proofs.YtngkolcpbgibcaaGreatDoor
