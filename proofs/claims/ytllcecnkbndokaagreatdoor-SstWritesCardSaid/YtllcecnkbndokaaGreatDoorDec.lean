/- sst.Decode of records that are a table's, and of one that is of another type, by its contract. Conditions: the bytes and the cuts read as such; utf8.ValidString keeps its contract. -/
import Derived.Test.YtllcecnkbndokaaGreatDoorRead7
namespace Go.Proofs.YtllcecnkbndokaaGreatDoor
open Go.RowKit Go.Lib

theorem five_boxes {w w1 : World} {T1 T2 T3 T4 T5 : TypeId} {c1 c2 c3 c4 c5 : Array Value} (hb : Below (((((w.alloc (.cells c1 T1)).alloc (.cells c2 T2)).alloc (.cells c3 T3)).alloc (.cells c4 T4)).alloc (.cells c5 T5)).heap.size (((((w.alloc (.cells c1 T1)).alloc (.cells c2 T2)).alloc (.cells c3 T3)).alloc (.cells c4 T4)).alloc (.cells c5 T5)) w1) :
    Bk w1 w.heap.size T1 c1 ∧ Bk w1 (w.heap.size + 1) T2 c2 ∧ Bk w1 (w.heap.size + 1 + 1) T3 c3 ∧ Bk w1 (w.heap.size + 1 + 1 + 1) T4 c4 ∧ Bk w1 (w.heap.size + 1 + 1 + 1 + 1) T5 c5 ∧ Below w.heap.size w w1 ∧ w.heap.size + 5 ≤ w1.heap.size := by
  have h5 := bx1 hb
  have h4 := four_boxes h5.2.1
  have e4 : ((((w.alloc (.cells c1 T1)).alloc (.cells c2 T2)).alloc (.cells c3 T3)).alloc (.cells c4 T4)).heap.size = w.heap.size + 1 + 1 + 1 + 1 := by simp
  refine ⟨h4.1, h4.2.1, h4.2.2.1, h4.2.2.2.1, by have := h5.1; rwa [e4] at this, h4.2.2.2.2.1, ?_⟩
  have := hb.size
  simp at this
  omega

set_option maxHeartbeats 8000000 in
set_option maxRecDepth 100000 in
theorem decode_other {w : World} {ty ty' a1 a2 : Int} {n c m d n' c' m' d' : Nat} {A D A' D' : Option Addr} (hty : ty ≠ 252) :
    Calls Tryz.prog 14 #[.agg #[.int .i64 ty, .slice A n c, .slice D m d, .int .i64 a1], .agg #[.int .i64 ty', .slice A' n' c', .slice D' m' d', .int .i64 a2]] w fun e w' => e = .returned (.tuple #[.agg #[.slice none 0 0, .int .i64 0], .int .i64 1]) ∧ Below w.heap.size w w' := by
  have hb0 : (ty != 252) = true := by simpa using hty
  go_enter Tryz.func14, Tryz.ntmps14
  go_wp2_with fail
  refine wp_scope_fwd 0 rfl ?_
  go_wp2
  go_step3
  refine ⟨rfl, ?_⟩
  show Code.wp _ _ _ _ _
  go_wp2
  rw [Exit.noGoto_ret]
  have hbF : Below w.heap.size w (((((w.alloc (.cells #[.int .i64 ty, .slice A n c, .slice D m d, .int .i64 a1] 30)).alloc (.cells #[.int .i64 ty', .slice A' n' c', .slice D' m' d', .int .i64 a2] 30)).alloc (.cells #[.slice none 0 0, .int .i64 0] 34)).alloc (.cells #[.slice none 0 0, .int .i64 0] 34)).alloc (.cells #[.int .i64 0, .slice none 0 0, .slice none 0 0, .int .i64 0] 30)) := ((((Below.refl w.heap.size w).alloc (Nat.le_refl _) _).alloc (by simp) _).alloc (by simp; omega) _).alloc (by simp; omega) _ |>.alloc (by simp; omega) _
  refine bodyPost_ret (v := .tuple #[.agg #[.slice none 0 0, .int .i64 0], .int .i64 1]) (by simp [results, Tryz.results14, go_sem]) rfl ?_
  exact ⟨rfl, hbF⟩

theorem encX_bd {L : List (List UInt8)} {u : Int} (hn : L.length ≤ 1000) (h0 : layE L u = 0) : (encX L u).data.length ≤ 1000 ∧ (encX L u).cuts.length ≤ 1000 := by
  unfold encX
  rw [if_pos h0]
  have hl : (layP L u).length = L.length := by unfold layP; rw [places_len]
  have h1 := xB_len (layP L u) (((layP L u).length + 7) / 8)
  constructor
  · show (xB (layP L u) (((layP L u).length + 7) / 8)).length ≤ 1000
    omega
  · show (cutsK (((xB (layP L u) (((layP L u).length + 7) / 8)).length - 1) / 224)).length ≤ 1000
    rw [cutsK_len]
    omega

set_option maxHeartbeats 16000000 in
set_option maxRecDepth 100000 in
theorem decode_good {w : World} {B n c m d xc xd : Nat} {A D XA XD : Option Addr} {b : List UInt8} {cs : List Int} {L : List (List UInt8)} {u a1 a2 : Int} {rx : RecM} (HV : Val w) (h : Rd w B 1 A n (b.map bv)) (hC : CutS w B D m cs) (hnc : n ≤ c) (hn : n ≤ 100000000) (hB : B ≤ w.heap.size) (hT : IsTab b cs L u) (hX : RecRd w B rx XA xc XD xd) (hty : rx.type = 255) (hat : rx.at_ = a2) (h0 : layE L u = 0) (hls : ∀ l ∈ L, l.length ≤ 100000) (hs : sameM rx (encX L u) = true) :
    Calls Tryz.prog 14 #[.agg #[.int .i64 252, .slice A n c, .slice D m d, .int .i64 a1], .agg #[.int .i64 255, .slice XA rx.data.length xc, .slice XD rx.cuts.length xd, .int .i64 a2]] w fun e w' => ∃ xv, e = .returned (.tuple #[.agg #[xv, .int .i64 u], .int .i64 0]) ∧ w'.ownsRow w.heap.size 9 1 xv L.length (L.map tv) ∧ Below w.heap.size w w' := by
  have hb5 : Below w.heap.size w (((((w.alloc (.cells #[.int .i64 252, .slice A n c, .slice D m d, .int .i64 a1] 30)).alloc (.cells #[.int .i64 255, .slice XA rx.data.length xc, .slice XD rx.cuts.length xd, .int .i64 a2] 30)).alloc (.cells #[.slice none 0 0, .int .i64 0] 34)).alloc (.cells #[.slice none 0 0, .int .i64 0] 34)).alloc (.cells #[.int .i64 0, .slice none 0 0, .slice none 0 0, .int .i64 0] 30)) := ((((Below.refl w.heap.size w).alloc (Nat.le_refl _) _).alloc (by simp) _).alloc (by simp; omega) _).alloc (by simp; omega) _ |>.alloc (by simp; omega) _
  have HRD := Lib.hid (read_good (c := c) (c' := d) (at_ := a1) (h.belowMono hb5 hB) (hC.belowMono hb5 hB) hnc hn (Nat.le_trans hB hb5.size) hT)
  have hfew := hT.few
  have HEN := Lib.hid (fun (W : World) (A : Option Addr) (c : Nat) (hb : Below w.heap.size w W) (hr : Rd W W.heap.size 1 A L.length (L.map tv)) => by
    have := encode_any (u := u) (c := c) (HV.below hb) hr (Nat.le_refl _) hfew hls
    rw [h0] at this
    exact this)
  have hx255 : (encX L u).type = 255 := by unfold encX; rw [if_pos h0]; rfl
  have hxat : (encX L u).at_ = 0 := by unfold encX; rw [if_pos h0]; rfl
  rw [hx255] at HEN
  have hbd := encX_bd hfew h0
  clear h hC hT HV h0 hls
  subst hat
  go_enter Tryz.func14, Tryz.ntmps14
  go_wp2_with fail
  refine wp_scope_fwd 0 rfl ?_
  go_wp2_with fail
  refine HRD.out.mono ?_
  rintro e w1 ⟨xv, rfl, o1, hb⟩
  have hbs : w.heap.size + 5 ≤ (((((w.alloc (.cells #[.int .i64 252, .slice A n c, .slice D m d, .int .i64 a1] 30)).alloc (.cells #[.int .i64 255, .slice XA rx.data.length xc, .slice XD rx.cuts.length xd, .int .i64 rx.at_] 30)).alloc (.cells #[.slice none 0 0, .int .i64 0] 34)).alloc (.cells #[.slice none 0 0, .int .i64 0] 34)).alloc (.cells #[.int .i64 0, .slice none 0 0, .slice none 0 0, .int .i64 0] 30)).heap.size := by simp
  obtain ⟨k1, k2, k3, k4, k5, hb1, s1⟩ := five_boxes hb
  obtain ⟨Av, cv, rfl, hcv, -, -⟩ := own_form o1
  have o1' := own_mono o1 hbs
  clear HRD hb hb5 o1 hbs
  have c40 := k4.cell 0
  have c41 := k4.cell 1
  have z40 := k4.frozen 0
  have z41 := k4.frozen 1
  go_wp2_with fail
  have hK : Keep (fun i => i = w.heap.size + 1 + 1 + 1) w1 ((w1.setCell ⟨w.heap.size + 1 + 1 + 1, 0, none⟩ (.slice Av L.length cv)).setCell ⟨w.heap.size + 1 + 1 + 1, 1, none⟩ (.int .i64 u)) := ((Keep.refl (fun i => i = w.heap.size + 1 + 1 + 1) w1).setCell (p := ⟨w.heap.size + 1 + 1 + 1, 0, none⟩) (fun _ => rfl) _).setCell (p := ⟨w.heap.size + 1 + 1 + 1, 1, none⟩) (fun _ => rfl) _
  have m4 := (k4.set_ 0 (.slice Av L.length cv)).set_ 1 (.int .i64 u)
  have m2 := hK.bk k2 (by omega)
  have m3 := hK.bk k3 (by omega)
  have m5 := hK.bk k5 (by omega)
  have o2 := hK.own o1' fun i hi he => by have := (o1'.lt i hi).1; omega
  have hb2 : Below w.heap.size w _ := keep_below hb1 hb1.size hK fun i ht => by omega
  clear c40 c41 z40 z41 k1 k2 k3 k4 k5 o1' hb1 hK s1
  generalize hW : (w1.setCell ⟨w.heap.size + 1 + 1 + 1, 0, none⟩ (.slice Av L.length cv)).setCell ⟨w.heap.size + 1 + 1 + 1, 1, none⟩ (.int .i64 u) = w2 at *
  clear hW
  have r4 : Bk w2 (w.heap.size + 1 + 1 + 1) 34 #[.slice Av L.length cv, .int .i64 u] := m4
  clear m4
  have c40 := r4.cell 0
  have c41 := r4.cell 1
  go_wp2_with fail
  refine (HEN.out w2 Av cv hb2 (own_form_rd o2)).mono ?_
  rintro e w3 ⟨dv, cv3, xv, yv, rfl, q1, q2, q3, q4, hb3⟩
  obtain ⟨Ad, cd, rfl, -, -, -⟩ := own_form q1
  obtain ⟨Ac, cc, rfl, -, -, -⟩ := own_form q2
  obtain ⟨Ax, cx, rfl, hcx, -, rx3⟩ := own_form q3
  obtain ⟨Ay, cy, rfl, hcy, -, ry3⟩ := own_form q4
  have s3 := r4.lt
  have s4 := m5.lt
  have n2 := m2.below hb3 m2.lt
  have n3 := m3.below hb3 m3.lt
  have n4 := r4.below hb3 r4.lt
  have n5 := m5.below hb3 m5.lt
  have o3 := own_below o2 hb3
  have hb4 := hb2.trans (hb3.mono hb2.size)
  clear HEN c40 c41 m2 m3 r4 m5 o2 q1 q2
  have c50 := n5.cell 0
  have c51 := n5.cell 1
  have c52 := n5.cell 2
  have c53 := n5.cell 3
  have z50 := n5.frozen 0
  have z51 := n5.frozen 1
  have z52 := n5.frozen 2
  have z53 := n5.frozen 3
  have c20 := n2.cell 0
  have c21 := n2.cell 1
  have c22 := n2.cell 2
  have c23 := n2.cell 3
  go_wp2_with fail
  have hK : Keep (fun i => i = w.heap.size + 1 + 1 + 1 + 1) w3 ((((w3.setCell ⟨w.heap.size + 1 + 1 + 1 + 1, 0, none⟩ (.int .i64 255)).setCell ⟨w.heap.size + 1 + 1 + 1 + 1, 1, none⟩ (.slice Ax (encX L u).data.length cx)).setCell ⟨w.heap.size + 1 + 1 + 1 + 1, 2, none⟩ (.slice Ay (encX L u).cuts.length cy)).setCell ⟨w.heap.size + 1 + 1 + 1 + 1, 3, none⟩ (.int .i64 0)) := (((((Keep.refl (fun i => i = w.heap.size + 1 + 1 + 1 + 1) w3).setCell (p := ⟨w.heap.size + 1 + 1 + 1 + 1, 0, none⟩) (fun _ => rfl) (.int .i64 255)).setCell (p := ⟨w.heap.size + 1 + 1 + 1 + 1, 1, none⟩) (fun _ => rfl) (.slice Ax (encX L u).data.length cx)).setCell (p := ⟨w.heap.size + 1 + 1 + 1 + 1, 2, none⟩) (fun _ => rfl) (.slice Ay (encX L u).cuts.length cy)).setCell (p := ⟨w.heap.size + 1 + 1 + 1 + 1, 3, none⟩) (fun _ => rfl) (.int .i64 0))
  have m5 := ((((n5.set_ 0 (.int .i64 255)).set_ 1 (.slice Ax (encX L u).data.length cx)).set_ 2 (.slice Ay (encX L u).cuts.length cy)).set_ 3 (.int .i64 0))
  have m2 := hK.bk n2 (by omega)
  have m3 := hK.bk n3 (by omega)
  have m4 := hK.bk n4 (by omega)
  have o4 := hK.own o3 fun i hi he => by have := (o3.lt i hi).1; omega
  have t3 := hK.own q3 fun i hi he => by have := (q3.lt i hi).1; omega
  have t4 := hK.own q4 fun i hi he => by have := (q4.lt i hi).1; omega
  have hb5 : Below w.heap.size w _ := keep_below hb4 hb4.size hK fun i ht => by omega
  clear c50 c51 c52 c53 z50 z51 z52 z53 c20 c21 c22 c23 n2 n3 n4 n5 o3 hb3 hb4 hK q3 q4 rx3 ry3
  generalize hW : ((((w3.setCell ⟨w.heap.size + 1 + 1 + 1 + 1, 0, none⟩ (.int .i64 255)).setCell ⟨w.heap.size + 1 + 1 + 1 + 1, 1, none⟩ (.slice Ax (encX L u).data.length cx)).setCell ⟨w.heap.size + 1 + 1 + 1 + 1, 2, none⟩ (.slice Ay (encX L u).cuts.length cy)).setCell ⟨w.heap.size + 1 + 1 + 1 + 1, 3, none⟩ (.int .i64 0)) = w4 at *
  clear hW
  have hXX := (hX.below (hb5.mono hB)).mono (Nat.le_trans hB hb5.size)
  have hWW : RecRd w4 w4.heap.size (encX L u) Ax cx Ay cy := ⟨own_form_rd t3, own_form_rd t4, ⟨hcx, by omega⟩, ⟨hcy, by omega⟩, by unfold Fit; rw [hx255]; omega⟩
  have HSM := Lib.hid (same_any hXX hWW (Nat.le_refl _))
  rw [hs, hty, hx255, hxat] at HSM
  have r5 : Bk w4 (w.heap.size + 1 + 1 + 1 + 1) 30 #[.int .i64 255, .slice Ax (encX L u).data.length cx, .slice Ay (encX L u).cuts.length cy, .int .i64 0] := m5
  clear m5 hXX hWW t3 t4 hX hs
  generalize encX L u = X at *
  have c50 := r5.cell 0
  have c51 := r5.cell 1
  have c52 := r5.cell 2
  have c53 := r5.cell 3
  have c20 := m2.cell 0
  have c21 := m2.cell 1
  have c22 := m2.cell 2
  have c23 := m2.cell 3
  go_wp2_with fail
  refine HSM.out.mono ?_
  rintro e w5 ⟨rfl, hb6⟩
  have n3 := m3.below hb6 m3.lt
  have n4 := m4.below hb6 m4.lt
  have o5 := own_below o4 hb6
  have hb7 := hb5.trans (hb6.mono hb5.size)
  clear HSM c50 c51 c52 c53 c20 c21 c22 c23 m2 m3 m4 r5 o4 hb6 hb5
  have p0 := n3.cell 0
  have p1 := n3.cell 1
  have zp0 := n3.frozen 0
  have zp1 := n3.frozen 1
  have q0 := n4.cell 0
  have q1 := n4.cell 1
  go_wp2
  rw [jump_ret]
  have hK : Keep (fun i => i = w.heap.size + 1 + 1) w5 _ := ((Keep.refl (fun i => i = w.heap.size + 1 + 1) w5).setCell (p := ⟨w.heap.size + 1 + 1, 0, none⟩) (fun _ => rfl) (.slice Av L.length cv)).setCell (p := ⟨w.heap.size + 1 + 1, 1, none⟩) (fun _ => rfl) (.int .i64 u)
  have hbF : Below w.heap.size w _ := keep_below hb7 hb7.size hK fun i ht => by omega
  have hoF := own_mono (hK.own o5 fun i hi he => by have := (o5.lt i hi).1; omega) (show w.heap.size ≤ _ by omega)
  refine bodyPost_ret (v := .tuple #[.agg #[.slice Av L.length cv, .int .i64 u], .int .i64 0]) (by simp [results, Tryz.results14, go_sem, p0, p1]) rfl ?_
  exact ⟨_, rfl, hoF, hbF⟩

set_option maxHeartbeats 16000000 in
set_option maxRecDepth 100000 in
theorem decode_unlike {w : World} {B n c m d xc xd : Nat} {A D XA XD : Option Addr} {b : List UInt8} {cs : List Int} {L : List (List UInt8)} {u a1 a2 : Int} {rx : RecM} (HV : Val w) (h : Rd w B 1 A n (b.map bv)) (hC : CutS w B D m cs) (hnc : n ≤ c) (hn : n ≤ 100000000) (hB : B ≤ w.heap.size) (hT : IsTab b cs L u) (hX : RecRd w B rx XA xc XD xd) (hty : rx.type = 255) (hat : rx.at_ = a2) (h0 : layE L u = 0) (hls : ∀ l ∈ L, l.length ≤ 100000) (hs : sameM rx (encX L u) = false) :
    Calls Tryz.prog 14 #[.agg #[.int .i64 252, .slice A n c, .slice D m d, .int .i64 a1], .agg #[.int .i64 255, .slice XA rx.data.length xc, .slice XD rx.cuts.length xd, .int .i64 a2]] w fun e w' => e = .returned (.tuple #[.agg #[.slice none 0 0, .int .i64 0], .int .i64 2]) ∧ Below w.heap.size w w' := by
  have hb5 : Below w.heap.size w (((((w.alloc (.cells #[.int .i64 252, .slice A n c, .slice D m d, .int .i64 a1] 30)).alloc (.cells #[.int .i64 255, .slice XA rx.data.length xc, .slice XD rx.cuts.length xd, .int .i64 a2] 30)).alloc (.cells #[.slice none 0 0, .int .i64 0] 34)).alloc (.cells #[.slice none 0 0, .int .i64 0] 34)).alloc (.cells #[.int .i64 0, .slice none 0 0, .slice none 0 0, .int .i64 0] 30)) := ((((Below.refl w.heap.size w).alloc (Nat.le_refl _) _).alloc (by simp) _).alloc (by simp; omega) _).alloc (by simp; omega) _ |>.alloc (by simp; omega) _
  have HRD := Lib.hid (read_good (c := c) (c' := d) (at_ := a1) (h.belowMono hb5 hB) (hC.belowMono hb5 hB) hnc hn (Nat.le_trans hB hb5.size) hT)
  have hfew := hT.few
  have HEN := Lib.hid (fun (W : World) (A : Option Addr) (c : Nat) (hb : Below w.heap.size w W) (hr : Rd W W.heap.size 1 A L.length (L.map tv)) => by
    have := encode_any (u := u) (c := c) (HV.below hb) hr (Nat.le_refl _) hfew hls
    rw [h0] at this
    exact this)
  have hx255 : (encX L u).type = 255 := by unfold encX; rw [if_pos h0]; rfl
  have hxat : (encX L u).at_ = 0 := by unfold encX; rw [if_pos h0]; rfl
  rw [hx255] at HEN
  have hbd := encX_bd hfew h0
  clear h hC hT HV h0 hls
  subst hat
  go_enter Tryz.func14, Tryz.ntmps14
  go_wp2_with fail
  refine wp_scope_fwd 0 rfl ?_
  go_wp2_with fail
  refine HRD.out.mono ?_
  rintro e w1 ⟨xv, rfl, o1, hb⟩
  have hbs : w.heap.size + 5 ≤ (((((w.alloc (.cells #[.int .i64 252, .slice A n c, .slice D m d, .int .i64 a1] 30)).alloc (.cells #[.int .i64 255, .slice XA rx.data.length xc, .slice XD rx.cuts.length xd, .int .i64 rx.at_] 30)).alloc (.cells #[.slice none 0 0, .int .i64 0] 34)).alloc (.cells #[.slice none 0 0, .int .i64 0] 34)).alloc (.cells #[.int .i64 0, .slice none 0 0, .slice none 0 0, .int .i64 0] 30)).heap.size := by simp
  obtain ⟨k1, k2, k3, k4, k5, hb1, s1⟩ := five_boxes hb
  obtain ⟨Av, cv, rfl, hcv, -, -⟩ := own_form o1
  have o1' := own_mono o1 hbs
  clear HRD hb hb5 o1 hbs
  have c40 := k4.cell 0
  have c41 := k4.cell 1
  have z40 := k4.frozen 0
  have z41 := k4.frozen 1
  go_wp2_with fail
  have hK : Keep (fun i => i = w.heap.size + 1 + 1 + 1) w1 ((w1.setCell ⟨w.heap.size + 1 + 1 + 1, 0, none⟩ (.slice Av L.length cv)).setCell ⟨w.heap.size + 1 + 1 + 1, 1, none⟩ (.int .i64 u)) := ((Keep.refl (fun i => i = w.heap.size + 1 + 1 + 1) w1).setCell (p := ⟨w.heap.size + 1 + 1 + 1, 0, none⟩) (fun _ => rfl) _).setCell (p := ⟨w.heap.size + 1 + 1 + 1, 1, none⟩) (fun _ => rfl) _
  have m4 := (k4.set_ 0 (.slice Av L.length cv)).set_ 1 (.int .i64 u)
  have m2 := hK.bk k2 (by omega)
  have m3 := hK.bk k3 (by omega)
  have m5 := hK.bk k5 (by omega)
  have o2 := hK.own o1' fun i hi he => by have := (o1'.lt i hi).1; omega
  have hb2 : Below w.heap.size w _ := keep_below hb1 hb1.size hK fun i ht => by omega
  clear c40 c41 z40 z41 k1 k2 k3 k4 k5 o1' hb1 hK s1
  generalize hW : (w1.setCell ⟨w.heap.size + 1 + 1 + 1, 0, none⟩ (.slice Av L.length cv)).setCell ⟨w.heap.size + 1 + 1 + 1, 1, none⟩ (.int .i64 u) = w2 at *
  clear hW
  have r4 : Bk w2 (w.heap.size + 1 + 1 + 1) 34 #[.slice Av L.length cv, .int .i64 u] := m4
  clear m4
  have c40 := r4.cell 0
  have c41 := r4.cell 1
  go_wp2_with fail
  refine (HEN.out w2 Av cv hb2 (own_form_rd o2)).mono ?_
  rintro e w3 ⟨dv, cv3, xv, yv, rfl, q1, q2, q3, q4, hb3⟩
  obtain ⟨Ad, cd, rfl, -, -, -⟩ := own_form q1
  obtain ⟨Ac, cc, rfl, -, -, -⟩ := own_form q2
  obtain ⟨Ax, cx, rfl, hcx, -, rx3⟩ := own_form q3
  obtain ⟨Ay, cy, rfl, hcy, -, ry3⟩ := own_form q4
  have s3 := r4.lt
  have s4 := m5.lt
  have n2 := m2.below hb3 m2.lt
  have n3 := m3.below hb3 m3.lt
  have n4 := r4.below hb3 r4.lt
  have n5 := m5.below hb3 m5.lt
  have o3 := own_below o2 hb3
  have hb4 := hb2.trans (hb3.mono hb2.size)
  clear HEN c40 c41 m2 m3 r4 m5 o2 q1 q2
  have c50 := n5.cell 0
  have c51 := n5.cell 1
  have c52 := n5.cell 2
  have c53 := n5.cell 3
  have z50 := n5.frozen 0
  have z51 := n5.frozen 1
  have z52 := n5.frozen 2
  have z53 := n5.frozen 3
  have c20 := n2.cell 0
  have c21 := n2.cell 1
  have c22 := n2.cell 2
  have c23 := n2.cell 3
  go_wp2_with fail
  have hK : Keep (fun i => i = w.heap.size + 1 + 1 + 1 + 1) w3 ((((w3.setCell ⟨w.heap.size + 1 + 1 + 1 + 1, 0, none⟩ (.int .i64 255)).setCell ⟨w.heap.size + 1 + 1 + 1 + 1, 1, none⟩ (.slice Ax (encX L u).data.length cx)).setCell ⟨w.heap.size + 1 + 1 + 1 + 1, 2, none⟩ (.slice Ay (encX L u).cuts.length cy)).setCell ⟨w.heap.size + 1 + 1 + 1 + 1, 3, none⟩ (.int .i64 0)) := (((((Keep.refl (fun i => i = w.heap.size + 1 + 1 + 1 + 1) w3).setCell (p := ⟨w.heap.size + 1 + 1 + 1 + 1, 0, none⟩) (fun _ => rfl) (.int .i64 255)).setCell (p := ⟨w.heap.size + 1 + 1 + 1 + 1, 1, none⟩) (fun _ => rfl) (.slice Ax (encX L u).data.length cx)).setCell (p := ⟨w.heap.size + 1 + 1 + 1 + 1, 2, none⟩) (fun _ => rfl) (.slice Ay (encX L u).cuts.length cy)).setCell (p := ⟨w.heap.size + 1 + 1 + 1 + 1, 3, none⟩) (fun _ => rfl) (.int .i64 0))
  have m5 := ((((n5.set_ 0 (.int .i64 255)).set_ 1 (.slice Ax (encX L u).data.length cx)).set_ 2 (.slice Ay (encX L u).cuts.length cy)).set_ 3 (.int .i64 0))
  have m2 := hK.bk n2 (by omega)
  have m3 := hK.bk n3 (by omega)
  have m4 := hK.bk n4 (by omega)
  have o4 := hK.own o3 fun i hi he => by have := (o3.lt i hi).1; omega
  have t3 := hK.own q3 fun i hi he => by have := (q3.lt i hi).1; omega
  have t4 := hK.own q4 fun i hi he => by have := (q4.lt i hi).1; omega
  have hb5 : Below w.heap.size w _ := keep_below hb4 hb4.size hK fun i ht => by omega
  clear c50 c51 c52 c53 z50 z51 z52 z53 c20 c21 c22 c23 n2 n3 n4 n5 o3 hb3 hb4 hK q3 q4 rx3 ry3
  generalize hW : ((((w3.setCell ⟨w.heap.size + 1 + 1 + 1 + 1, 0, none⟩ (.int .i64 255)).setCell ⟨w.heap.size + 1 + 1 + 1 + 1, 1, none⟩ (.slice Ax (encX L u).data.length cx)).setCell ⟨w.heap.size + 1 + 1 + 1 + 1, 2, none⟩ (.slice Ay (encX L u).cuts.length cy)).setCell ⟨w.heap.size + 1 + 1 + 1 + 1, 3, none⟩ (.int .i64 0)) = w4 at *
  clear hW
  have hXX := (hX.below (hb5.mono hB)).mono (Nat.le_trans hB hb5.size)
  have hWW : RecRd w4 w4.heap.size (encX L u) Ax cx Ay cy := ⟨own_form_rd t3, own_form_rd t4, ⟨hcx, by omega⟩, ⟨hcy, by omega⟩, by unfold Fit; rw [hx255]; omega⟩
  have HSM := Lib.hid (same_any hXX hWW (Nat.le_refl _))
  rw [hs, hty, hx255, hxat] at HSM
  have r5 : Bk w4 (w.heap.size + 1 + 1 + 1 + 1) 30 #[.int .i64 255, .slice Ax (encX L u).data.length cx, .slice Ay (encX L u).cuts.length cy, .int .i64 0] := m5
  clear m5 hXX hWW t3 t4 hX hs
  generalize encX L u = X at *
  have c50 := r5.cell 0
  have c51 := r5.cell 1
  have c52 := r5.cell 2
  have c53 := r5.cell 3
  have c20 := m2.cell 0
  have c21 := m2.cell 1
  have c22 := m2.cell 2
  have c23 := m2.cell 3
  go_wp2_with fail
  refine HSM.out.mono ?_
  rintro e w5 ⟨rfl, hb6⟩
  have n3 := m3.below hb6 m3.lt
  have n4 := m4.below hb6 m4.lt
  have o5 := own_below o4 hb6
  have hb7 := hb5.trans (hb6.mono hb5.size)
  clear HSM c50 c51 c52 c53 c20 c21 c22 c23 m2 m3 m4 r5 o4 hb6 hb5
  have p0 := n3.cell 0
  have p1 := n3.cell 1
  have zp0 := n3.frozen 0
  have zp1 := n3.frozen 1
  have q0 := n4.cell 0
  have q1 := n4.cell 1
  go_wp2
  go_step3
  refine ⟨rfl, ?_⟩
  show Code.wp _ _ _ _ _
  go_wp2
  rw [Exit.noGoto_ret]
  have hK : Keep (fun i => i = w.heap.size + 1 + 1) w5 _ := ((Keep.refl (fun i => i = w.heap.size + 1 + 1) w5).setCell (p := ⟨w.heap.size + 1 + 1, 0, none⟩) (fun _ => rfl) (.slice none 0 0)).setCell (p := ⟨w.heap.size + 1 + 1, 1, none⟩) (fun _ => rfl) (.int .i64 0)
  have hbF : Below w.heap.size w _ := keep_below hb7 hb7.size hK fun i ht => by omega
  refine bodyPost_ret (v := .tuple #[.agg #[.slice none 0 0, .int .i64 0], .int .i64 2]) (by simp [results, Tryz.results14, go_sem, p0, p1]) rfl ?_
  exact ⟨rfl, hbF⟩

end Go.Proofs.YtllcecnkbndokaaGreatDoor
