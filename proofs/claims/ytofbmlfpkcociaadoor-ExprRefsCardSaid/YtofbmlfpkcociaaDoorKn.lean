/- cashbooklaw10.known by its contract: it returns true. Condition: utf8.ValidString keeps its contract. -/
import Derived.Test.YtofbmlfpkcociaaDoorNe
import Derived.Test.YtofbmlfpkcociaaDoorSm
import Derived.Test.YtofbmlfpkcociaaDoorCx
set_option linter.unusedVariables false
set_option linter.unusedSimpArgs false
namespace Go.Proofs.YtofbmlfpkcociaaDoor
open Go.RowKit

def tA : Tr := .mk (atP 1 2) []
def tS : Tr := .mk (spanP 0 3 1) []
def tN : Tr := .mk (nameP 3) []
def tC : Tr := .mk (callP 0) [tS, tN]
def eP : Pay := binP 1
def fP : Pay := { binP 1 with sheet := 1 }
def eK : List Tr := [tA, tC]
theorem e_ck : ckT oneE (.mk eP eK) = 0 := by kernel_rfl
theorem e_dp : dpT (.mk eP eK) = 3 := by kernel_rfl
theorem e_cnt : cntT (.mk eP eK) = 5 := by kernel_rfl
theorem e_rf : rfT (.mk eP eK) = [atP 1 2, spanP 0 3 1, nameP 3] := by kernel_rfl
theorem f_ck : ckT oneE (.mk fP eK) = 1 := by kernel_rfl
theorem n15_ck : ckT oneE (nestT 15) = 0 := by kernel_rfl
theorem n16_ck : ckT oneE (nestT 16) = 11 := by kernel_rfl
theorem z_ck : ckT oneE (.mk zp []) = 1 := by kernel_rfl
theorem far_ck : ckT oneE (.mk (atP 65536 0) []) = 12 := by kernel_rfl
theorem bl_ck : ckT oneE (.mk { zp with kind := 1 } []) = 1 := by kernel_rfl
/-- Every text is short, by the row. -/
theorem short_of {l : List (Pay × Nat)} (h : (l.all fun q => decide (q.1.vt.size ≤ 140737488355328)) = true) : ShortN l := fun q hq => of_decide_eq_true (List.all_eq_true.1 h q hq)

theorem ck_call {W : World} (HV : Val W) {p : Pay} {ks : List Tr} {A : Option Addr} {c : Nat} {r : Int} (h : AtT W p ks A c) (hr : ckT oneE (.mk p ks) = r) (hC : cntT (.mk p ks) ≤ 100000) (hs : ((ndT (.mk p ks)).all fun q => decide (q.1.vt.size ≤ 140737488355328)) = true) :
    Calls Tryd.prog 9 #[.agg (ec p (.slice A ks.length c)).toArray] W fun e W' => e = .returned (.int .i64 r) ∧ Below W.heap.size W W' := by
  subst hr
  exact check_t HV h hC (short_of hs)

/-- What lies in the world through the last region: the two formulas' boxes, two cells of the row of places. -/
structure KG (w W : World) (g1 g3 s : Nat) (A : Option Addr) (c : Nat) : Prop where
  k1 : Bk W g1 43 (ec eP (.slice A eK.length c)).toArray
  k3 : Bk W g3 43 (ec fP (.slice A eK.length c)).toArray
  r0 : W.cell? ⟨s, 0, none⟩ = some (.int .i64 2)
  r2 : W.cell? ⟨s, 52, none⟩ = some (.int .i64 3)
  hs : s < W.heap.size
  hE : AtT W eP eK A c
  hb : Below w.heap.size w W
theorem KG.on {w W W' : World} {g1 g3 s : Nat} {A : Option Addr} {c : Nat} (h : KG w W g1 g3 s A c) (hb : Below W.heap.size W W') : KG w W' g1 g3 s A c :=
  ⟨h.k1.below hb h.k1.lt, h.k3.below hb h.k3.lt, (hb.cell (p := ⟨s, 0, none⟩) h.hs).trans h.r0, (hb.cell (p := ⟨s, 52, none⟩) h.hs).trans h.r2, Nat.lt_of_lt_of_le h.hs hb.size, h.hE.below hb, h.hb.trans (hb.mono h.hb.size)⟩
theorem KG.f {w W : World} {g1 g3 s : Nat} {A : Option Addr} {c : Nat} (h : KG w W g1 g3 s A c) : AtT W fP eK A c := h.hE
theorem e_few : cntT (.mk eP eK) ≤ 100000 := by rw [e_cnt]; omega
theorem f_few : cntT (.mk fP eK) ≤ 100000 := by rw [show cntT (.mk fP eK) = 5 by kernel_rfl]; omega
theorem ck_v {W : World} (HV : Val W) {p : Pay} {ks : List Tr} {v : Value} {r : Int} (h : AtV W p ks v) (hr : ckT oneE (.mk p ks) = r) (hC : (decide (cntT (.mk p ks) ≤ 100000)) = true) (hs : ((ndT (.mk p ks)).all fun q => decide (q.1.vt.size ≤ 140737488355328)) = true) :
    Calls Tryd.prog 9 #[v] W fun e W' => e = .returned (.int .i64 r) ∧ Below W.heap.size W W' := by
  obtain ⟨A, c, rfl, h⟩ := h
  exact ck_call HV h hr (of_decide_eq_true hC) hs
theorem dp_call {W : World} {p : Pay} {ks : List Tr} {A : Option Addr} {c r : Nat} (h : AtT W p ks A c) (hr : dpT (.mk p ks) = r) (hC : cntT (.mk p ks) ≤ 100000) :
    Calls Tryd.prog 10 #[.agg (ec p (.slice A ks.length c)).toArray] W fun e W' => e = .returned (.int .i64 r) ∧ Below W.heap.size W W' := by
  subst hr
  exact depth_any h hC
theorem cn_call {W : World} {p : Pay} {ks : List Tr} {A : Option Addr} {c r : Nat} (h : AtT W p ks A c) (hr : cntT (.mk p ks) = r) (hC : cntT (.mk p ks) ≤ 100000) :
    Calls Tryd.prog 11 #[.agg (ec p (.slice A ks.length c)).toArray] W fun e W' => e = .returned (.int .i64 r) ∧ Below W.heap.size W W' := by
  subst hr
  exact count_any h hC
theorem no_kids {W : World} (p : Pay) : AtV W p [] (.agg (ec p (.slice none 0 0)).toArray) := ⟨none, 0, rfl, Nat.le_refl _, RowF.nil _ _ _ _⟩

set_option maxRecDepth 20000 in
set_option maxHeartbeats 8000000 in
theorem known_any {w : World} (HV : Val w) : Calls Tryd.prog 6 #[] w fun e W => e = .returned (.bool true) ∧ Below w.heap.size w W := by
  have HVV := Lib.hid HV
  clear HV
  go_enter Tryd.func6, Tryd.ntmps6
  repeat' (first | go_values | go_skip | go_guarded | go_step | go_upon)
  refine (at_any 1 2).mono ?_
  rintro e W1 ⟨rfl, hb1⟩
  have HB1 := Lib.hid hb1
  clear hb1
  dsimp only
  repeat' (first | go_values | go_skip | go_guarded | go_step | go_upon)
  refine (span_any 0 3 1).mono ?_
  rintro e W2 ⟨rfl, hb2⟩
  have HB2 := Lib.hid (HB1.out.trans (hb2.mono HB1.out.size))
  clear hb2
  dsimp only
  repeat' (first | ((with_reducible show Oper.wp _ _ _ _ _ _); apply stop_b; exact rfl) | go_values | go_skip | go_guarded | go_step | go_upon)
  refine Lib.hid ?_
  refine wp_b (v := .agg (ec (nameP 3) (.slice none 0 0)).toArray) (by kernel_rfl) ?_
  go_simp
  repeat' (first | ((with_reducible show Oper.wp _ _ _ _ _ _); apply stop_bs; exact rfl) | go_values | go_skip | go_guarded | go_step | go_upon)
  refine Lib.hid ?_
  refine wp_v (v := .slice (some ⟨W2.heap.size, 0, none⟩) 2 2) (W' := W2.alloc (.cells (ec (spanP 0 3 1) (.slice none 0 0) ++ ec (nameP 3) (.slice none 0 0)).toArray 43)) (by kernel_rfl) ?_
  have hb3 := bel0 W2 (.cells (ec (spanP 0 3 1) (.slice none 0 0) ++ ec (nameP 3) (.slice none 0 0)).toArray 43)
  have hkn := Bk.new W2 43 (ec (spanP 0 3 1) (.slice none 0 0) ++ ec (nameP 3) (.slice none 0 0)).toArray
  have HB3 := Lib.hid (And.intro (HB2.out.trans (hb3.mono HB2.out.size)) hkn)
  clear hb3 hkn
  generalize W2.alloc (.cells (ec (spanP 0 3 1) (.slice none 0 0) ++ ec (nameP 3) (.slice none 0 0)).toArray 43) = W3 at *
  generalize W2.heap.size = s2 at *
  go_simp
  repeat' (first | go_values | go_skip | go_guarded | go_step | go_upon)
  refine (call_any 0 (some ⟨s2, 0, none⟩) 2 2).mono ?_
  rintro e W4 ⟨rfl, hb4⟩
  have HB4 := Lib.hid (And.intro (HB3.out.1.trans (hb4.mono HB3.out.1.size)) (HB3.out.2.below hb4 HB3.out.2.lt))
  clear hb4
  dsimp only
  repeat' (first | go_values | go_skip | go_guarded | go_step | go_upon)
  have hC : AtV W4 (callP 0) [tS, tN] (.agg (ec (callP 0) (.slice (some ⟨s2, 0, none⟩) 2 2)).toArray) := ⟨_, 2, rfl, Nat.le_refl _, row_two (p := spanP 0 3 1) (q := nameP 3) (ks := []) (ms := []) (A1 := none) (A2 := none) (c1 := 0) (c2 := 0) HB4.out.2 HB4.out.2.lt (Nat.le_refl _) (Nat.le_refl _) (RowF.nil _ _ _ _) (RowF.nil _ _ _ _)⟩
  refine (bin_any 1 (p := atP 1 2) (ks := []) ⟨none, 0, rfl, Nat.le_refl _, RowF.nil _ _ _ _⟩ hC).mono ?_
  rintro e W5 ⟨v, rfl, hE, hb5⟩
  have HB5 := Lib.hid (HB4.out.1.trans (hb5.mono HB4.out.1.size))
  clear hb5 hC
  have hE' : AtV W5 eP eK v := hE
  clear hE
  obtain ⟨A, c, rfl, hE⟩ := hE'
  have hk0 : Bk (W5.alloc (.cells #[.int .i64 0, .int .i64 0, .int .i64 0, .int .i64 0, .string ⟨#[]⟩, .bool false, .int .i64 0, .int .i64 0, .int .i64 0, .bool false, .bool false, .int .i64 0, .int .i64 0, .bool false, .bool false, .int .i64 0, .int .i64 0, .slice none 0 0] 43)) W5.heap.size 43 (ec zp (.slice none 0 0)).toArray := Bk.new _ _ _
  have HE := Lib.hid hE
  clear hE
  dsimp only
  repeat' (first | ((with_reducible show Oper.wp _ _ _ _ _ _); apply stop_s; exact rfl) | go_values | go_skip | go_guarded | go_step | go_upon)
  refine Lib.hid ?_
  apply st_p
  · exact rfl
  · exact rfl
  · exact rfl
  · exact hk0
  · exact rfl
  intro W6 hk1 hK6 hz6
  have hb56 := made_box hK6
  have HB6 := Lib.hid (And.intro (HB5.out.trans (hb56.mono HB5.out.size)) (HE.out.below hb56))
  clear hk0 hK6 hz6 hb56
  generalize W5.heap.size = g1 at *
  go_simp
  repeat' (first | ((with_reducible show Oper.wp _ _ _ _ _ _); apply ld_p; exact rfl; exact rfl; assumption; go_simp) | go_values | go_skip | go_guarded | go_step | go_upon)
  have hcnt : cntT (.mk eP eK) ≤ 100000 := by rw [e_cnt]; omega
  refine (refs_any HB6.out.2 hcnt).mono ?_
  rintro e W7 ⟨vo, rfl, ho, hb7⟩
  rw [e_rf] at ho
  obtain ⟨S, cr, rfl, -, -, hrd⟩ := own_form ho
  obtain ⟨s, rfl⟩ : ∃ s, S = some ⟨s, 0, none⟩ := by
    rcases ho.2 with ⟨h, _⟩ | ⟨s, _, _, h, _⟩
    · cases h
    · injection h with h
      exact ⟨s, h⟩
  obtain ⟨a0, ha0, hsl, hcell⟩ := hrd.at_ (by simp)
  injection ha0 with ha0
  subst ha0
  have r0 : W7.cell? ⟨s, 0, none⟩ = some (.int .i64 2) := by
    have := hcell 0 (.int .i64 2) rfl
    rwa [addr_zero] at this
  have r2 : W7.cell? ⟨s, 52, none⟩ = some (.int .i64 3) := by
    have := hcell 52 (.int .i64 3) rfl
    rwa [addr_zero] at this
  have hk17 := hk1.below hb7 hk1.lt
  have HB7 := Lib.hid (And.intro (HB6.out.1.trans (hb7.mono HB6.out.1.size)) (And.intro (HB6.out.2.below hb7) (And.intro (And.intro r0 (And.intro r2 hsl)) hk17)))
  clear hk1 hb7 ho hrd hcell r0 r2 hsl
  dsimp only
  have hk0 : Bk (W7.alloc (.cells #[.int .i64 0, .int .i64 0, .int .i64 0, .int .i64 0, .string ⟨#[]⟩, .bool false, .int .i64 0, .int .i64 0, .int .i64 0, .bool false, .bool false, .int .i64 0, .int .i64 0, .bool false, .bool false, .int .i64 0, .int .i64 0, .slice none 0 0] 43)) W7.heap.size 43 (ec zp (.slice none 0 0)).toArray := Bk.new _ _ _
  repeat' (first | ((with_reducible show Oper.wp _ _ _ _ _ _); apply ld_p; exact rfl; exact rfl; assumption; go_simp) | ((with_reducible show Oper.wp _ _ _ _ _ _); apply stop_s; exact rfl) | go_values | go_skip | go_guarded | go_step | go_upon)
  refine Lib.hid ?_
  apply st_p
  · exact rfl
  · exact rfl
  · exact rfl
  · exact hk0
  · exact rfl
  intro W8 hk3 hK8 hz8
  have hb78 := made_box hK8
  have hlt3 : g1 < W7.heap.size := hk17.lt
  have HB8 := Lib.hid (And.intro hb78 hlt3)
  clear hk0 hK8 hz8 hb78 hlt3 hk17
  generalize hg3 : W7.heap.size = g3 at *
  have f15 := hk3.frozen 15
  have c15 := hk3.cell 15
  have hs15 := hk3.set_ 15 (.int .i64 1)
  have hs15' : Bk (W8.setCell ⟨g3, 15, none⟩ (.int .i64 1)) g3 43 (ec fP (.slice A eK.length c)).toArray := hs15
  have hKs : Keep (fun i => i = g3) W8 (W8.setCell ⟨g3, 15, none⟩ (.int .i64 1)) := (Keep.refl (fun i => i = g3) W8).setCell (p := ⟨g3, 15, none⟩) (fun _ => rfl) _
  have c15' : W8.cell? ⟨g3, 15, none⟩ = some (.int .i64 0) := c15
  have HS := Lib.hid (And.intro hs15' (And.intro hKs hg3))
  clear hs15 hs15' hKs c15 hk3 hg3
  have hb79 : Below g3 W7 (W8.setCell ⟨g3, 15, none⟩ (.int .i64 1)) := by
    have h := HS.out.2.2
    subst h
    exact HB8.out.1.trans (HS.out.2.1.below (B := W7.heap.size) HB8.out.1.size fun i hi e => by omega)
  have HX := Lib.hid hb79
  clear hb79
  go_simp
  have hg : W7.heap.size = g3 := HS.out.2.2
  have hbp : Below w.heap.size w (W8.setCell ⟨g3, 15, none⟩ (.int .i64 1)) := HB7.out.1.trans (HX.out.mono (by have := HB7.out.1.size; omega))
  have hk1 := HB7.out.2.2.2.below HX.out HB8.out.2
  have hk3 := HS.out.1
  have r0 : (W8.setCell ⟨g3, 15, none⟩ (.int .i64 1)).cell? ⟨s, 0, none⟩ = some (.int .i64 2) := (HX.out.cell (p := ⟨s, 0, none⟩) (by have := HB7.out.2.2.1.2.2; simpa [← hg] using this)).trans HB7.out.2.2.1.1
  have r2 : (W8.setCell ⟨g3, 15, none⟩ (.int .i64 1)).cell? ⟨s, 52, none⟩ = some (.int .i64 3) := (HX.out.cell (p := ⟨s, 52, none⟩) (by have := HB7.out.2.2.1.2.2; simpa [← hg] using this)).trans HB7.out.2.2.1.2.1
  have hsl : s < (W8.setCell ⟨g3, 15, none⟩ (.int .i64 1)).heap.size := Nat.lt_of_lt_of_le HB7.out.2.2.1.2.2 (Nat.le_trans (Nat.le_of_eq hg.symm) HX.out.size)
  have HE9 := HB7.out.2.1.below (by rw [hg]; exact HX.out)
  have HG : Hid (KG w (W8.setCell ⟨g3, 15, none⟩ (.int .i64 1)) g1 g3 s A c) := Lib.hid ⟨hk1, hk3, r0, r2, hsl, HE9, hbp⟩
  clear HE9 hbp hg hsl HX HS HB8 HB7
  repeat' (first | ((with_reducible show wpList _ _ _ (List.append _ _) _ _); refine Hid.out (?_ : Hid _)) | go_values | go_skip | go_guarded | go_step | go_upon)
  refine Lib.hid ?_
  dsimp only [List.append]
  repeat' (first | ((with_reducible show Oper.wp _ _ _ _ _ _); apply ld_p; exact rfl; exact rfl; assumption; go_simp) | ((with_reducible show wpList _ _ _ (List.cons _ _) _ _); apply gld_p; exact rfl; exact rfl; exact rfl; assumption; go_simp) | ((with_reducible show wpList _ _ _ (List.cons _ _) _ _); apply gstop_b; exact rfl; exact rfl) | go_values | go_skip | go_guarded | go_step | go_upon)
  refine (ck_call (HVV.out.below HG.out.hb) HG.out.hE e_ck e_few (by kernel_rfl)).mono ?_
  rintro e W11 ⟨rfl, hb11⟩
  have HG := Lib.hid (HG.out.on hb11)
  clear hb11 hk1 hk3 r0 r2
  have hk1 := HG.out.k1
  have hk3 := HG.out.k3
  have r0 := HG.out.r0
  have r2 := HG.out.r2
  dsimp only
  repeat' (first | ((with_reducible show Oper.wp _ _ _ _ _ _); apply ld_p; exact rfl; exact rfl; assumption; go_simp) | ((with_reducible show wpList _ _ _ (List.cons _ _) _ _); apply gld_p; exact rfl; exact rfl; exact rfl; assumption; go_simp) | ((with_reducible show wpList _ _ _ (List.cons _ _) _ _); apply gstop_b; exact rfl; exact rfl) | go_values | go_skip | go_guarded | go_step | go_upon)
  refine (dp_call HG.out.hE e_dp e_few).mono ?_
  rintro e W12 ⟨rfl, hb12⟩
  have HG := Lib.hid (HG.out.on hb12)
  clear hb12 hk1 hk3 r0 r2
  have hk1 := HG.out.k1
  have hk3 := HG.out.k3
  have r0 := HG.out.r0
  have r2 := HG.out.r2
  dsimp only
  repeat' (first | ((with_reducible show Oper.wp _ _ _ _ _ _); apply ld_p; exact rfl; exact rfl; assumption; go_simp) | ((with_reducible show wpList _ _ _ (List.cons _ _) _ _); apply gld_p; exact rfl; exact rfl; exact rfl; assumption; go_simp) | ((with_reducible show wpList _ _ _ (List.cons _ _) _ _); apply gstop_b; exact rfl; exact rfl) | go_values | go_skip | go_guarded | go_step | go_upon)
  refine (cn_call HG.out.hE e_cnt e_few).mono ?_
  rintro e W13 ⟨rfl, hb13⟩
  have HG := Lib.hid (HG.out.on hb13)
  clear hb13 hk1 hk3 r0 r2
  have hk1 := HG.out.k1
  have hk3 := HG.out.k3
  have r0 := HG.out.r0
  have r2 := HG.out.r2
  dsimp only
  repeat' (first | ((with_reducible show Oper.wp _ _ _ _ _ _); apply ld_p; exact rfl; exact rfl; assumption; go_simp) | ((with_reducible show wpList _ _ _ (List.cons _ _) _ _); apply gld_p; exact rfl; exact rfl; exact rfl; assumption; go_simp) | ((with_reducible show wpList _ _ _ (List.cons _ _) _ _); apply gstop_b; exact rfl; exact rfl) | go_values | go_skip | go_guarded | go_step | go_upon)
  refine (ck_call (HVV.out.below HG.out.hb) HG.out.f f_ck f_few (by kernel_rfl)).mono ?_
  rintro e W14 ⟨rfl, hb14⟩
  have HG := Lib.hid (HG.out.on hb14)
  clear hb14 hk1 hk3 r0 r2
  have hk1 := HG.out.k1
  have hk3 := HG.out.k3
  have r0 := HG.out.r0
  have r2 := HG.out.r2
  dsimp only
  repeat' (first | ((with_reducible show Oper.wp _ _ _ _ _ _); apply ld_p; exact rfl; exact rfl; assumption; go_simp) | ((with_reducible show wpList _ _ _ (List.cons _ _) _ _); apply gld_p; exact rfl; exact rfl; exact rfl; assumption; go_simp) | ((with_reducible show wpList _ _ _ (List.cons _ _) _ _); apply gstop_b; exact rfl; exact rfl) | go_values | go_skip | go_guarded | go_step | go_upon)
  refine (nest_any 15 (by omega)).mono ?_
  rintro e W15 ⟨v15, rfl, hv15, hb15⟩
  have HG := Lib.hid (HG.out.on hb15)
  clear hb15 hk1 hk3 r0 r2
  have hk1 := HG.out.k1
  have hk3 := HG.out.k3
  have r0 := HG.out.r0
  have r2 := HG.out.r2
  dsimp only
  repeat' (first | ((with_reducible show Oper.wp _ _ _ _ _ _); apply ld_p; exact rfl; exact rfl; assumption; go_simp) | ((with_reducible show wpList _ _ _ (List.cons _ _) _ _); apply gld_p; exact rfl; exact rfl; exact rfl; assumption; go_simp) | ((with_reducible show wpList _ _ _ (List.cons _ _) _ _); apply gstop_b; exact rfl; exact rfl) | go_values | go_skip | go_guarded | go_step | go_upon)
  refine (ck_v (HVV.out.below HG.out.hb) hv15 ((congrArg (ckT oneE) (nest_parts 15)).symm.trans n15_ck) (by kernel_rfl) (by kernel_rfl)).mono ?_
  rintro e W16 ⟨rfl, hb16⟩
  have HG := Lib.hid (HG.out.on hb16)
  clear hb16 hk1 hk3 r0 r2
  have hk1 := HG.out.k1
  have hk3 := HG.out.k3
  have r0 := HG.out.r0
  have r2 := HG.out.r2
  dsimp only
  repeat' (first | ((with_reducible show Oper.wp _ _ _ _ _ _); apply ld_p; exact rfl; exact rfl; assumption; go_simp) | ((with_reducible show wpList _ _ _ (List.cons _ _) _ _); apply gld_p; exact rfl; exact rfl; exact rfl; assumption; go_simp) | ((with_reducible show wpList _ _ _ (List.cons _ _) _ _); apply gstop_b; exact rfl; exact rfl) | go_values | go_skip | go_guarded | go_step | go_upon)
  refine (nest_any 16 (by omega)).mono ?_
  rintro e W17 ⟨v17, rfl, hv17, hb17⟩
  have HG := Lib.hid (HG.out.on hb17)
  clear hb17 hk1 hk3 r0 r2
  have hk1 := HG.out.k1
  have hk3 := HG.out.k3
  have r0 := HG.out.r0
  have r2 := HG.out.r2
  dsimp only
  repeat' (first | ((with_reducible show Oper.wp _ _ _ _ _ _); apply ld_p; exact rfl; exact rfl; assumption; go_simp) | ((with_reducible show wpList _ _ _ (List.cons _ _) _ _); apply gld_p; exact rfl; exact rfl; exact rfl; assumption; go_simp) | ((with_reducible show wpList _ _ _ (List.cons _ _) _ _); apply gstop_b; exact rfl; exact rfl) | go_values | go_skip | go_guarded | go_step | go_upon)
  refine (ck_v (HVV.out.below HG.out.hb) hv17 ((congrArg (ckT oneE) (nest_parts 16)).symm.trans n16_ck) (by kernel_rfl) (by kernel_rfl)).mono ?_
  rintro e W18 ⟨rfl, hb18⟩
  have HG := Lib.hid (HG.out.on hb18)
  clear hb18 hk1 hk3 r0 r2
  have hk1 := HG.out.k1
  have hk3 := HG.out.k3
  have r0 := HG.out.r0
  have r2 := HG.out.r2
  dsimp only
  repeat' (first | ((with_reducible show Oper.wp _ _ _ _ _ _); apply ld_p; exact rfl; exact rfl; assumption; go_simp) | ((with_reducible show wpList _ _ _ (List.cons _ _) _ _); apply gld_p; exact rfl; exact rfl; exact rfl; assumption; go_simp) | ((with_reducible show wpList _ _ _ (List.cons _ _) _ _); apply gstop_b; exact rfl; exact rfl) | go_values | go_skip | go_guarded | go_step | go_upon)
  refine (same_t HG.out.hE HG.out.hE e_few e_few).mono ?_
  rintro e W19 ⟨b19, rfl, he19, hb19⟩
  obtain rfl : b19 = true := he19.2 rfl
  clear he19
  have HG := Lib.hid (HG.out.on hb19)
  clear hb19 hk1 hk3 r0 r2
  have hk1 := HG.out.k1
  have hk3 := HG.out.k3
  have r0 := HG.out.r0
  have r2 := HG.out.r2
  dsimp only
  repeat' (first | ((with_reducible show Oper.wp _ _ _ _ _ _); apply ld_p; exact rfl; exact rfl; assumption; go_simp) | ((with_reducible show wpList _ _ _ (List.cons _ _) _ _); apply gld_p; exact rfl; exact rfl; exact rfl; assumption; go_simp) | ((with_reducible show wpList _ _ _ (List.cons _ _) _ _); apply gstop_b; exact rfl; exact rfl) | go_values | go_skip | go_guarded | go_step | go_upon)
  refine (same_t HG.out.hE HG.out.f e_few f_few).mono ?_
  rintro e W20 ⟨b20, rfl, he20, hb20⟩
  obtain rfl : b20 = false := by
    cases b20
    · rfl
    · exact absurd (congrArg (fun t => (Tr.pay t).sheet) (he20.1 rfl)) (by decide)
  clear he20
  have HG := Lib.hid (HG.out.on hb20)
  clear hb20 hk1 hk3 r0 r2
  have hk1 := HG.out.k1
  have hk3 := HG.out.k3
  have r0 := HG.out.r0
  have r2 := HG.out.r2
  dsimp only
  repeat' (first | ((with_reducible show Oper.wp _ _ _ _ _ _); apply ld_p; exact rfl; exact rfl; assumption; go_simp) | ((with_reducible show wpList _ _ _ (List.cons _ _) _ _); apply gld_p; exact rfl; exact rfl; exact rfl; assumption; go_simp) | ((with_reducible show wpList _ _ _ (List.cons _ _) _ _); apply gstop_b; exact rfl; exact rfl) | go_values | go_skip | go_guarded | go_step | go_upon)
  refine Lib.hid ?_
  refine gwp_b rfl (v := .agg (ec zp (.slice none 0 0)).toArray) (by kernel_rfl) ?_
  go_simp
  repeat' (first | ((with_reducible show Oper.wp _ _ _ _ _ _); apply ld_p; exact rfl; exact rfl; assumption; go_simp) | ((with_reducible show wpList _ _ _ (List.cons _ _) _ _); apply gld_p; exact rfl; exact rfl; exact rfl; assumption; go_simp) | ((with_reducible show wpList _ _ _ (List.cons _ _) _ _); apply gstop_b; exact rfl; exact rfl) | go_values | go_skip | go_guarded | go_step | go_upon)
  refine (ck_v (HVV.out.below HG.out.hb) (no_kids zp) z_ck (by kernel_rfl) (by kernel_rfl)).mono ?_
  rintro e W21 ⟨rfl, hb21⟩
  have HG := Lib.hid (HG.out.on hb21)
  clear hb21 hk1 hk3 r0 r2
  have hk1 := HG.out.k1
  have hk3 := HG.out.k3
  have r0 := HG.out.r0
  have r2 := HG.out.r2
  dsimp only
  repeat' (first | ((with_reducible show Oper.wp _ _ _ _ _ _); apply ld_p; exact rfl; exact rfl; assumption; go_simp) | ((with_reducible show wpList _ _ _ (List.cons _ _) _ _); apply gld_p; exact rfl; exact rfl; exact rfl; assumption; go_simp) | ((with_reducible show wpList _ _ _ (List.cons _ _) _ _); apply gstop_b; exact rfl; exact rfl) | go_values | go_skip | go_guarded | go_step | go_upon)
  refine (at_any 65536 0).mono ?_
  rintro e W22 ⟨rfl, hb22⟩
  have HG := Lib.hid (HG.out.on hb22)
  clear hb22 hk1 hk3 r0 r2
  have hk1 := HG.out.k1
  have hk3 := HG.out.k3
  have r0 := HG.out.r0
  have r2 := HG.out.r2
  dsimp only
  repeat' (first | ((with_reducible show Oper.wp _ _ _ _ _ _); apply ld_p; exact rfl; exact rfl; assumption; go_simp) | ((with_reducible show wpList _ _ _ (List.cons _ _) _ _); apply gld_p; exact rfl; exact rfl; exact rfl; assumption; go_simp) | ((with_reducible show wpList _ _ _ (List.cons _ _) _ _); apply gstop_b; exact rfl; exact rfl) | go_values | go_skip | go_guarded | go_step | go_upon)
  refine (ck_v (HVV.out.below HG.out.hb) (no_kids (atP 65536 0)) far_ck (by kernel_rfl) (by kernel_rfl)).mono ?_
  rintro e W23 ⟨rfl, hb23⟩
  have HG := Lib.hid (HG.out.on hb23)
  clear hb23 hk1 hk3 r0 r2
  have hk1 := HG.out.k1
  have hk3 := HG.out.k3
  have r0 := HG.out.r0
  have r2 := HG.out.r2
  dsimp only
  repeat' (first | ((with_reducible show Oper.wp _ _ _ _ _ _); apply ld_p; exact rfl; exact rfl; assumption; go_simp) | ((with_reducible show wpList _ _ _ (List.cons _ _) _ _); apply gld_p; exact rfl; exact rfl; exact rfl; assumption; go_simp) | ((with_reducible show wpList _ _ _ (List.cons _ _) _ _); apply gstop_b; exact rfl; exact rfl) | go_values | go_skip | go_guarded | go_step | go_upon)
  refine Lib.hid ?_
  refine gwp_b rfl (v := .agg (ec { zp with kind := 1 } (.slice none 0 0)).toArray) (by kernel_rfl) ?_
  go_simp
  repeat' (first | ((with_reducible show Oper.wp _ _ _ _ _ _); apply ld_p; exact rfl; exact rfl; assumption; go_simp) | ((with_reducible show wpList _ _ _ (List.cons _ _) _ _); apply gld_p; exact rfl; exact rfl; exact rfl; assumption; go_simp) | ((with_reducible show wpList _ _ _ (List.cons _ _) _ _); apply gstop_b; exact rfl; exact rfl) | go_values | go_skip | go_guarded | go_step | go_upon)
  refine (ck_v (HVV.out.below HG.out.hb) (no_kids { zp with kind := 1 }) bl_ck (by kernel_rfl) (by kernel_rfl)).mono ?_
  rintro e W24 ⟨rfl, hb24⟩
  have HG := Lib.hid (HG.out.on hb24)
  clear hb24 hk1 hk3 r0 r2
  have hk1 := HG.out.k1
  have hk3 := HG.out.k3
  have r0 := HG.out.r0
  have r2 := HG.out.r2
  dsimp only
  repeat' (first | ((with_reducible show Oper.wp _ _ _ _ _ _); apply ld_p; exact rfl; exact rfl; assumption; go_simp) | ((with_reducible show wpList _ _ _ (List.cons _ _) _ _); apply gld_p; exact rfl; exact rfl; exact rfl; assumption; go_simp) | ((with_reducible show wpList _ _ _ (List.cons _ _) _ _); apply gstop_b; exact rfl; exact rfl) | go_values | go_skip | go_guarded | go_step | go_upon)
  exact bodyPost_ret (v := .bool true) (by simp [results, Tryd.results6, go_sem]) rfl ⟨rfl, HG.out.hb⟩
end Go.Proofs.YtofbmlfpkcociaaDoor
