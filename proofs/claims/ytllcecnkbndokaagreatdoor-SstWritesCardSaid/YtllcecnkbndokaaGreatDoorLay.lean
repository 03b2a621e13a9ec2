/- sst.lay by its contract. Conditions: the texts read as such; neither they are too many nor one too long; utf8.ValidString keeps its contract. -/
import Derived.Test.YtllcecnkbndokaaGreatDoorLayS
namespace Go.Proofs.YtllcecnkbndokaaGreatDoor
open Go.RowKit Go.Lib

theorem four_boxes {w w1 : World} {T1 T2 T3 T4 : TypeId} {c1 c2 c3 c4 : Array Value} (hb : Below ((((w.alloc (.cells c1 T1)).alloc (.cells c2 T2)).alloc (.cells c3 T3)).alloc (.cells c4 T4)).heap.size ((((w.alloc (.cells c1 T1)).alloc (.cells c2 T2)).alloc (.cells c3 T3)).alloc (.cells c4 T4)) w1) :
    Bk w1 w.heap.size T1 c1 ∧ Bk w1 (w.heap.size + 1) T2 c2 ∧ Bk w1 (w.heap.size + 1 + 1) T3 c3 ∧ Bk w1 (w.heap.size + 1 + 1 + 1) T4 c4 ∧ Below w.heap.size w w1 ∧ w.heap.size + 4 ≤ w1.heap.size := by
  have h4 := bx1 hb
  have b3 := (Below.refl _ (((w.alloc (.cells c1 T1)).alloc (.cells c2 T2)).alloc (.cells c3 T3))).trans h4.2.1
  have h3 := bx1 b3
  have h2 := bx1 h3.2.1
  have h1 := bx1 h2.2.1
  have e1 : (w.alloc (.cells c1 T1)).heap.size = w.heap.size + 1 := by simp
  have e2 : ((w.alloc (.cells c1 T1)).alloc (.cells c2 T2)).heap.size = w.heap.size + 1 + 1 := by simp
  have e3 : (((w.alloc (.cells c1 T1)).alloc (.cells c2 T2)).alloc (.cells c3 T3)).heap.size = w.heap.size + 1 + 1 + 1 := by simp
  refine ⟨h1.1, by have := h2.1; rwa [e1] at this, by have := h3.1; rwa [e2] at this, by have := h4.1; rwa [e3] at this, h1.2.1, ?_⟩
  have := hb.size
  simp at this
  omega
theorem pt_nil {g i : Nat} (h : PT g (.slice none 0 0) (.slice none 0 0) (.slice none 0 0) i) : i = g := by
  rcases h with h | h | h | h
  · exact h
  all_goals simp [Value.ownBlock] at h
theorem keep_below {T : Nat → Prop} {w w1 w2 : World} {B : Nat} (hb : Below B w w1) (hB : B ≤ w1.heap.size) (hk : Keep T w1 w2) (hT : ∀ i, T i → B ≤ i) : Below B w w2 :=
  hb.trans (hk.below hB fun i hi ht => by have := hT i ht; omega)

set_option maxHeartbeats 8000000 in
set_option maxRecDepth 100000 in
theorem lay_bad {w : World} {B n c : Nat} {A : Option Addr} {L : List (List UInt8)} {u : Int} (HV : Val w) (h : Rd w B 1 A n (L.map tv)) (hB : B ≤ w.heap.size) (hn : n ≤ 1000) (hs : ∀ l ∈ L, l.length ≤ 100000) (h0 : ckTab L u ≠ 0) :
    Calls Tryz.prog 24 #[.agg #[.slice A n c, .int .i64 u]] w fun e w' => ∃ dv cv pv, e = .returned (.tuple #[.agg #[.int .i64 (encR L u).type, dv, cv, .int .i64 0], pv, .int .i64 (layE L u)]) ∧
      w'.ownsRow w.heap.size 5 1 dv (encR L u).data.length ((encR L u).data.map bv) ∧ w'.ownsRow w.heap.size 3 1 cv (encR L u).cuts.length ((encR L u).cuts.map iv) ∧ w'.ownsRow w.heap.size 3 1 pv (encP L u).length ((encP L u).map nv) ∧ Below w.heap.size w w' := by
  have hb4 : Below w.heap.size w ((((w.alloc (.cells #[.slice A n c, .int .i64 u] 34)).alloc (.cells #[.int .i64 0, .slice none 0 0, .slice none 0 0, .int .i64 0] 30)).alloc (.cells #[.slice none 0 0, .slice none 0 0, .int .i64 0, .slice none 0 0] 83)).alloc (.cells #[.int .i64 0, .slice none 0 0, .slice none 0 0, .int .i64 0] 30)) := ((((Below.refl w.heap.size w).alloc (Nat.le_refl _) _).alloc (by simp) _).alloc (by simp; omega) _).alloc (by simp; omega) _
  have HCK := Lib.hid (checkTab_any (c := c) (u := u) (HV.below hb4) (h.belowMono hb4 hB) (Nat.le_trans hB hb4.size) hn hs)
  have HF := Lib.hid (show layE L u = ckTab L u ∧ encR L u = ⟨0, [], [], 0⟩ ∧ encP L u = [] by
    have e : layE L u = ckTab L u := by unfold layE; rw [if_neg h0]
    refine ⟨e, ?_, ?_⟩
    · unfold encR; rw [e, if_neg h0]
    · unfold encP; rw [e, if_neg h0])
  have hb0 : (ckTab L u != 0) = true := by simpa using h0
  clear HV h hs hb4 h0
  rw [HF.out.1, HF.out.2.1, HF.out.2.2]
  clear HF
  have hck := HCK.out
  clear HCK
  generalize ckTab L u = E at *
  go_enter Tryz.func24, Tryz.ntmps24
  go_wp2_with fail
  refine wp_scope_fwd 0 rfl ?_
  go_wp2_with fail
  refine hck.mono ?_
  rintro e w1 ⟨rfl, hb⟩
  obtain ⟨k1, k2, k3, k4, hb', s1⟩ := four_boxes hb
  clear hb hck
  have d0 := k2.cell 0
  have d1 := k2.cell 1
  have d2 := k2.cell 2
  have d3 := k2.cell 3
  have y0 := k2.frozen 0
  have y1 := k2.frozen 1
  have y2 := k2.frozen 2
  have y3 := k2.frozen 3
  clear k1 k2 k3 k4
  go_wp2
  go_step3
  refine ⟨rfl, ?_⟩
  show Code.wp _ _ _ _ _
  go_wp2
  rw [Exit.noGoto_ret]
  have hbF := (((hb'.setCell (p := ⟨w.heap.size + 1, 0, none⟩) (by show w.heap.size ≤ _ + 1; omega) (.int .i64 0)).setCell (p := ⟨w.heap.size + 1, 1, none⟩) (by show w.heap.size ≤ _ + 1; omega) (.slice none 0 0)).setCell (p := ⟨w.heap.size + 1, 2, none⟩) (by show w.heap.size ≤ _ + 1; omega) (.slice none 0 0)).setCell (p := ⟨w.heap.size + 1, 3, none⟩) (by show w.heap.size ≤ _ + 1; omega) (.int .i64 0)
  refine bodyPost_ret (v := .tuple #[.agg #[.int .i64 0, .slice none 0 0, .slice none 0 0, .int .i64 0], .slice none 0 0, .int .i64 E]) (by simp [results, Tryz.results24, go_sem, d0, d1, d2, d3]) rfl ?_
  exact ⟨_, _, _, rfl, World.ownsRow_nil _ _ _ _, World.ownsRow_nil _ _ _ _, World.ownsRow_nil _ _ _ _, hbF⟩

theorem own_form_rd {w : World} {base k n m c : Nat} {e : TypeId} {A : Option Addr} {xs : List Value} (h : w.ownsRow base e k (.slice A m c) n xs) : Rd w w.heap.size k A n xs := by
  obtain ⟨A', c', hv, -, -, hr⟩ := own_form h
  injection hv with h1
  subst h1
  exact hr
set_option maxHeartbeats 16000000 in
set_option maxRecDepth 100000 in
theorem lay_good {w : World} {B n c : Nat} {A : Option Addr} {L : List (List UInt8)} {u : Int} (HV : Val w) (h : Rd w B 1 A n (L.map tv)) (hB : B ≤ w.heap.size) (hn : n ≤ 1000) (hs : ∀ l ∈ L, l.length ≤ 100000) (h0 : ckTab L u = 0) (h1 : checkM (layR L u) = 0) :
    Calls Tryz.prog 24 #[.agg #[.slice A n c, .int .i64 u]] w fun e w' => ∃ dv cv pv, e = .returned (.tuple #[.agg #[.int .i64 (encR L u).type, dv, cv, .int .i64 0], pv, .int .i64 (layE L u)]) ∧
      w'.ownsRow w.heap.size 5 1 dv (encR L u).data.length ((encR L u).data.map bv) ∧ w'.ownsRow w.heap.size 3 1 cv (encR L u).cuts.length ((encR L u).cuts.map iv) ∧ w'.ownsRow w.heap.size 3 1 pv (encP L u).length ((encP L u).map nv) ∧ Below w.heap.size w w' := by
  obtain ⟨-, hu0, hun, hum, -⟩ := ckTab_ok h0
  have hl := h.tlen
  have hb4 : Below w.heap.size w ((((w.alloc (.cells #[.slice A n c, .int .i64 u] 34)).alloc (.cells #[.int .i64 0, .slice none 0 0, .slice none 0 0, .int .i64 0] 30)).alloc (.cells #[.slice none 0 0, .slice none 0 0, .int .i64 0, .slice none 0 0] 83)).alloc (.cells #[.int .i64 0, .slice none 0 0, .slice none 0 0, .int .i64 0] 30)) := ((((Below.refl w.heap.size w).alloc (Nat.le_refl _) _).alloc (by simp) _).alloc (by simp; omega) _).alloc (by simp; omega) _
  have HCK := Lib.hid (checkTab_any (c := c) (u := u) (HV.below hb4) (h.belowMono hb4 hB) (Nat.le_trans hB hb4.size) hn hs)
  rw [h0] at HCK
  have HLA := Lib.hid (fun k (hk : k ≤ L.length) => lay_at h0 k hk (by omega))
  have HF := Lib.hid (show layE L u = 0 ∧ encR L u = ⟨252, (layS L u).b, (layS L u).cs, 0⟩ ∧ encP L u = layP L u by
    have e : layE L u = 0 := by unfold layE; rw [if_pos h0]; exact h1
    refine ⟨e, ?_, ?_⟩
    · unfold encR; rw [if_pos e]; rfl
    · unfold encP; rw [if_pos e])
  rw [HF.out.1, HF.out.2.1, HF.out.2.2]
  have h1 : checkM ⟨252, (layS L u).b, (layS L u).cs, 0⟩ = 0 := h1
  clear HF hb4 h0
  have H1 := Lib.hid h1
  clear h1
  have hck := HCK.out
  clear HCK
  have hbg : begL L u = ⟨[] ++ (lowB u.toNat 4 ++ lowB n 4), [], 0⟩ := by unfold begL begS; rw [hl]; rfl
  have HBG := Lib.hid hbg
  clear hbg
  go_enter Tryz.func24, Tryz.ntmps24
  go_wp2_with fail
  refine wp_scope_fwd 0 rfl ?_
  go_wp2_with fail
  refine hck.mono ?_
  rintro e w1 ⟨rfl, hb⟩
  obtain ⟨k1, k2, k3, k4, hb', s1⟩ := four_boxes hb
  clear hb hck
  have hP0 : PI w1 w.heap.size (w.heap.size + 1 + 1) ⟨[], [], 0⟩ [] (.slice none 0 0) (.slice none 0 0) (.slice none 0 0) := ⟨k3, World.ownsRow_nil _ _ _ _, World.ownsRow_nil _ _ _ _, World.ownsRow_nil _ _ _ _, fun i hi => by simp [Value.ownBlock] at hi⟩
  have c0 := k1.cell 0
  have c1 := k1.cell 1
  have HPF := Lib.hid (putFront_any (n := n) (c := c) (A := A) (u := u) hP0 hb'.size (by simp) ⟨by omega, by omega⟩ (by omega))
  rw [← HBG.out] at HPF
  clear hP0 k3
  go_wp2_with fail
  refine HPF.out.mono ?_
  rintro e w2 ⟨rfl, dv, hJ2⟩
  clear HPF HBG c0 c1
  have j1 := hJ2.keep.bk k1 (fun ht => by have := pt_nil ht; omega)
  have c0 := j1.cell 0
  have c1 := j1.cell 1
  have hb2 : Below w.heap.size w w2 := keep_below hb' hb'.size hJ2.keep fun i ht => by have := pt_nil ht; omega
  clear j1
  go_wp2_with fail
  go_loopw [19] (fun i wr => ∃ (k : Nat) (d c p : Value), i = .int .i64 k ∧ k ≤ n ∧ PJ w1 wr w.heap.size (w.heap.size + 1 + 1) (layT (begL L u) (L.take k)) (placesT (begL L u) (L.take k)) (.slice none 0 0) (.slice none 0 0) (.slice none 0 0) d c p) (fun i _ => n - (Go.RowKit.intOf i).toNat)
  case atStart => exact ⟨0, _, _, _, rfl, Nat.zero_le _, hJ2⟩
  case round =>
    clear hJ2 hb2 c0 c1
    obtain ⟨k, d, cx, p, rfl, hk, hJ⟩ := hrel
    have hbel : Below w.heap.size w wr := keep_below hb' hb'.size hJ.keep fun i ht => by have := pt_nil ht; omega
    by_cases hkn : k < n
    · have hkn' : (k : Int) < (n : Int) := by omega
      obtain ⟨a, s, rfl, hab, hsi, hcell⟩ := (h.belowMono hbel hB).strAt hkn
      have hss : s.size ≤ 100000 := by have := hs _ (List.mem_of_getElem? hsi); simpa using this
      obtain ⟨q1, q2, q3⟩ := HLA.out k (by omega)
      have HPT := Lib.hid (putText_any (HV.below hbel) hJ.i hbel.size s hss (hu0 _ (List.mem_of_getElem? hsi)) q1 (by omega) q3 (by rw [places_len, List.length_take]; omega))
      have e1 := layT_take (S := begL L u) hsi
      have e2 := placesT_take (S := begL L u) hsi
      rw [← e1, ← e2] at HPT
      clear e1 e2 q1 q2 q3 hsi hss
      go_wp2_with fail
      refine HPT.out.mono ?_
      rintro e w3 ⟨rfl, d3, c3, p3, hJ3⟩
      have hJ4 := hJ.trans hJ3
      clear HPT hJ3 hJ hcell
      go_wp2
      go_roundw
      case rel => exact ⟨k + 1, d3, c3, p3, by go_num, by omega, hJ4⟩
      case measure => simp [Go.RowKit.intOf]; omega
    · obtain rfl : k = n := by omega
      rw [List.take_of_length_le (by omega)] at hJ
      have hJ' : PJ w1 wr w.heap.size (w.heap.size + 1 + 1) (layS L u) (layP L u) (.slice none 0 0) (.slice none 0 0) (.slice none 0 0) d cx p := hJ
      have hq := (HLA.out k (by omega)).2
      rw [List.take_of_length_le (by omega)] at hq
      have hq1 : (layS L u).b.length ≤ 8 + 3003 * k := hq.1
      have hq2 : (layS L u).cs.length ≤ (layS L u).b.length := hq.2
      clear hJ HLA hq h HV hs hu0
      generalize hSe : layS L u = S at *
      have HSe := Lib.hid hSe
      clear hSe
      generalize hPe : layP L u = P at *
      have HPe := Lib.hid hPe
      clear hPe
      have j2 := hJ'.keep.bk k2 (fun ht => by have := pt_nil ht; omega)
      have j4 := hJ'.keep.bk k4 (fun ht => by have := pt_nil ht; omega)
      have hPI := hJ'.i
      obtain ⟨Ad, cd, rfl, hcd, -, -⟩ := own_form hPI.od
      obtain ⟨Ac, cc, rfl, hcc, -, -⟩ := own_form hPI.oc
      obtain ⟨Ap, cp, rfl, -, -, -⟩ := own_form hPI.op
      have p0 := hPI.box.cell 0
      have p1 := hPI.box.cell 1
      have r0 := j4.cell 0
      have r1 := j4.cell 1
      have r2 := j4.cell 2
      have r3 := j4.cell 3
      have z0 := j4.frozen 0
      have z1 := j4.frozen 1
      have z2 := j4.frozen 2
      have z3 := j4.frozen 3
      go_wp2_with fail
      have hK5 : Keep (fun i => i = w.heap.size + 1 + 1 + 1) wr ((((wr.setCell ⟨w.heap.size + 1 + 1 + 1, 0, none⟩ (.int .i64 252)).setCell ⟨w.heap.size + 1 + 1 + 1, 1, none⟩ (.slice Ad S.b.length cd)).setCell ⟨w.heap.size + 1 + 1 + 1, 2, none⟩ (.slice Ac S.cs.length cc)).setCell ⟨w.heap.size + 1 + 1 + 1, 3, none⟩ (.int .i64 0)) :=
        ((((Keep.refl (fun i => i = w.heap.size + 1 + 1 + 1) wr).setCell (p := ⟨w.heap.size + 1 + 1 + 1, 0, none⟩) (fun _ => rfl) _).setCell (p := ⟨w.heap.size + 1 + 1 + 1, 1, none⟩) (fun _ => rfl) _).setCell (p := ⟨w.heap.size + 1 + 1 + 1, 2, none⟩) (fun _ => rfl) _).setCell (p := ⟨w.heap.size + 1 + 1 + 1, 3, none⟩) (fun _ => rfl) _
      have m4 := (((j4.set_ 0 (.int .i64 252)).set_ 1 (.slice Ad S.b.length cd)).set_ 2 (.slice Ac S.cs.length cc)).set_ 3 (.int .i64 0)
      have m2 := hK5.bk j2 (by omega)
      have hP5 := hPI.keep hK5 (fun i hi he => by subst he; exact hPI.other j4 (by decide) (by decide) (by decide) hi)
      have hb5 : Below w.heap.size w _ := keep_below hbel hbel.size hK5 fun i ht => by omega
      clear p0 p1 r0 r1 r2 r3 z0 z1 z2 z3 j4 j2 hPI hJ' hbel
      generalize hW5 : (((wr.setCell ⟨w.heap.size + 1 + 1 + 1, 0, none⟩ (.int .i64 252)).setCell ⟨w.heap.size + 1 + 1 + 1, 1, none⟩ (.slice Ad S.b.length cd)).setCell ⟨w.heap.size + 1 + 1 + 1, 2, none⟩ (.slice Ac S.cs.length cc)).setCell ⟨w.heap.size + 1 + 1 + 1, 3, none⟩ (.int .i64 0) = w5 at *
      clear hW5 hK5
      have n4 : Bk w5 (w.heap.size + 1 + 1 + 1) 30 #[.int .i64 252, .slice Ad S.b.length cd, .slice Ac S.cs.length cc, .int .i64 0] := m4
      have g0 := n4.cell 0
      have g1 := n4.cell 1
      have g2 := n4.cell 2
      have g3 := n4.cell 3
      have HRC := Lib.hid (check_any (w := w5) (B := w5.heap.size) (r := ⟨252, S.b, S.cs, 0⟩) (D := Ad) (dc := cd) (C := Ac) (cc := cc) ⟨(own_form_rd hP5.od), (own_form_rd hP5.oc), ⟨hcd, by show S.b.length ≤ _; omega⟩, ⟨hcc, by show S.cs.length ≤ _; omega⟩, by show -9223372036854775808 ≤ (252 : Int) ∧ (252 : Int) ≤ 9223372036854775807; omega⟩ (Nat.le_refl _))
      rw [H1.out] at HRC
      clear m4
      go_wp2_with fail
      refine HRC.out.mono ?_
      rintro e w6 ⟨rfl, hb6⟩
      clear HRC g0 g1 g2 g3 H1
      have o4 := n4.below hb6 n4.lt
      have o2 := m2.below hb6 m2.lt
      have hP6 := hP5.below hb6
      have hb7 := hb5.trans (hb6.mono hb5.size)
      clear hb6 n4 m2 hP5 hb5
      have d0 := o2.cell 0
      have d1 := o2.cell 1
      have d2 := o2.cell 2
      have d3 := o2.cell 3
      have y0 := o2.frozen 0
      have y1 := o2.frozen 1
      have y2 := o2.frozen 2
      have y3 := o2.frozen 3
      have f0 := o4.cell 0
      have f1 := o4.cell 1
      have f2 := o4.cell 2
      have f3 := o4.cell 3
      have q3 := hP6.box.cell 3
      go_wp2_with fail
      go_region
      all_goals
        go_wp2
        rw [jump_ret]
        have hKF := (((((Keep.refl (fun i => i = w.heap.size + 1) w6).setCell (p := ⟨w.heap.size + 1, 0, none⟩) (fun _ => rfl) (.int .i64 252)).setCell (p := ⟨w.heap.size + 1, 1, none⟩) (fun _ => rfl) (.slice Ad S.b.length cd)).setCell (p := ⟨w.heap.size + 1, 2, none⟩) (fun _ => rfl) (.slice Ac S.cs.length cc)).setCell (p := ⟨w.heap.size + 1, 3, none⟩) (fun _ => rfl) (.int .i64 0)).drew
        have hPF := hP6.keep hKF (fun i hi he => by subst he; exact hP6.other o2 (by decide) (by decide) (by decide) hi)
        have hbF : Below w.heap.size w _ := keep_below hb7 hb7.size hKF fun i ht => by omega
        refine bodyPost_ret (v := .tuple #[.agg #[.int .i64 252, .slice Ad S.b.length cd, .slice Ac S.cs.length cc, .int .i64 0], .slice Ap P.length cp, .int .i64 0]) (by simp [results, Tryz.results24, go_sem, d0, d1, d2, d3]) rfl ?_
        rw [HSe.out, HPe.out]
        exact ⟨_, _, _, rfl, hPF.od, hPF.oc, hPF.op, hbF⟩

set_option maxHeartbeats 16000000 in
set_option maxRecDepth 100000 in
theorem lay_long {w : World} {B n c : Nat} {A : Option Addr} {L : List (List UInt8)} {u : Int} (HV : Val w) (h : Rd w B 1 A n (L.map tv)) (hB : B ≤ w.heap.size) (hn : n ≤ 1000) (hs : ∀ l ∈ L, l.length ≤ 100000) (h0 : ckTab L u = 0) (h1 : checkM (layR L u) ≠ 0) :
    Calls Tryz.prog 24 #[.agg #[.slice A n c, .int .i64 u]] w fun e w' => ∃ dv cv pv, e = .returned (.tuple #[.agg #[.int .i64 (encR L u).type, dv, cv, .int .i64 0], pv, .int .i64 (layE L u)]) ∧
      w'.ownsRow w.heap.size 5 1 dv (encR L u).data.length ((encR L u).data.map bv) ∧ w'.ownsRow w.heap.size 3 1 cv (encR L u).cuts.length ((encR L u).cuts.map iv) ∧ w'.ownsRow w.heap.size 3 1 pv (encP L u).length ((encP L u).map nv) ∧ Below w.heap.size w w' := by
  obtain ⟨-, hu0, hun, hum, -⟩ := ckTab_ok h0
  have hl := h.tlen
  have hb4 : Below w.heap.size w ((((w.alloc (.cells #[.slice A n c, .int .i64 u] 34)).alloc (.cells #[.int .i64 0, .slice none 0 0, .slice none 0 0, .int .i64 0] 30)).alloc (.cells #[.slice none 0 0, .slice none 0 0, .int .i64 0, .slice none 0 0] 83)).alloc (.cells #[.int .i64 0, .slice none 0 0, .slice none 0 0, .int .i64 0] 30)) := ((((Below.refl w.heap.size w).alloc (Nat.le_refl _) _).alloc (by simp) _).alloc (by simp; omega) _).alloc (by simp; omega) _
  have HCK := Lib.hid (checkTab_any (c := c) (u := u) (HV.below hb4) (h.belowMono hb4 hB) (Nat.le_trans hB hb4.size) hn hs)
  rw [h0] at HCK
  have HLA := Lib.hid (fun k (hk : k ≤ L.length) => lay_at h0 k hk (by omega))
  have HF := Lib.hid (show layE L u = checkM (layR L u) ∧ encR L u = ⟨0, [], [], 0⟩ ∧ encP L u = [] by
    have e : layE L u = checkM (layR L u) := by unfold layE; rw [if_pos h0]
    refine ⟨e, ?_, ?_⟩
    · unfold encR; rw [e, if_neg h1]
    · unfold encP; rw [e, if_neg h1])
  have hb1 : (checkM (layR L u) != 0) = true := by simpa using h1
  rw [HF.out.1, HF.out.2.1, HF.out.2.2]
  have h1 : checkM ⟨252, (layS L u).b, (layS L u).cs, 0⟩ = checkM (layR L u) := rfl
  clear HF hb4 h0
  generalize checkM (layR L u) = E at *
  have H1 := Lib.hid h1
  clear h1
  have hck := HCK.out
  clear HCK
  have hbg : begL L u = ⟨[] ++ (lowB u.toNat 4 ++ lowB n 4), [], 0⟩ := by unfold begL begS; rw [hl]; rfl
  have HBG := Lib.hid hbg
  clear hbg
  go_enter Tryz.func24, Tryz.ntmps24
  go_wp2_with fail
  refine wp_scope_fwd 0 rfl ?_
  go_wp2_with fail
  refine hck.mono ?_
  rintro e w1 ⟨rfl, hb⟩
  obtain ⟨k1, k2, k3, k4, hb', s1⟩ := four_boxes hb
  clear hb hck
  have hP0 : PI w1 w.heap.size (w.heap.size + 1 + 1) ⟨[], [], 0⟩ [] (.slice none 0 0) (.slice none 0 0) (.slice none 0 0) := ⟨k3, World.ownsRow_nil _ _ _ _, World.ownsRow_nil _ _ _ _, World.ownsRow_nil _ _ _ _, fun i hi => by simp [Value.ownBlock] at hi⟩
  have c0 := k1.cell 0
  have c1 := k1.cell 1
  have HPF := Lib.hid (putFront_any (n := n) (c := c) (A := A) (u := u) hP0 hb'.size (by simp) ⟨by omega, by omega⟩ (by omega))
  rw [← HBG.out] at HPF
  clear hP0 k3
  go_wp2_with fail
  refine HPF.out.mono ?_
  rintro e w2 ⟨rfl, dv, hJ2⟩
  clear HPF HBG c0 c1
  have j1 := hJ2.keep.bk k1 (fun ht => by have := pt_nil ht; omega)
  have c0 := j1.cell 0
  have c1 := j1.cell 1
  have hb2 : Below w.heap.size w w2 := keep_below hb' hb'.size hJ2.keep fun i ht => by have := pt_nil ht; omega
  clear j1
  go_wp2_with fail
  go_loopw [19] (fun i wr => ∃ (k : Nat) (d c p : Value), i = .int .i64 k ∧ k ≤ n ∧ PJ w1 wr w.heap.size (w.heap.size + 1 + 1) (layT (begL L u) (L.take k)) (placesT (begL L u) (L.take k)) (.slice none 0 0) (.slice none 0 0) (.slice none 0 0) d c p) (fun i _ => n - (Go.RowKit.intOf i).toNat)
  case atStart => exact ⟨0, _, _, _, rfl, Nat.zero_le _, hJ2⟩
  case round =>
    clear hJ2 hb2 c0 c1
    obtain ⟨k, d, cx, p, rfl, hk, hJ⟩ := hrel
    have hbel : Below w.heap.size w wr := keep_below hb' hb'.size hJ.keep fun i ht => by have := pt_nil ht; omega
    by_cases hkn : k < n
    · have hkn' : (k : Int) < (n : Int) := by omega
      obtain ⟨a, s, rfl, hab, hsi, hcell⟩ := (h.belowMono hbel hB).strAt hkn
      have hss : s.size ≤ 100000 := by have := hs _ (List.mem_of_getElem? hsi); simpa using this
      obtain ⟨q1, q2, q3⟩ := HLA.out k (by omega)
      have HPT := Lib.hid (putText_any (HV.below hbel) hJ.i hbel.size s hss (hu0 _ (List.mem_of_getElem? hsi)) q1 (by omega) q3 (by rw [places_len, List.length_take]; omega))
      have e1 := layT_take (S := begL L u) hsi
      have e2 := placesT_take (S := begL L u) hsi
      rw [← e1, ← e2] at HPT
      clear e1 e2 q1 q2 q3 hsi hss
      go_wp2_with fail
      refine HPT.out.mono ?_
      rintro e w3 ⟨rfl, d3, c3, p3, hJ3⟩
      have hJ4 := hJ.trans hJ3
      clear HPT hJ3 hJ hcell
      go_wp2
      go_roundw
      case rel => exact ⟨k + 1, d3, c3, p3, by go_num, by omega, hJ4⟩
      case measure => simp [Go.RowKit.intOf]; omega
    · obtain rfl : k = n := by omega
      rw [List.take_of_length_le (by omega)] at hJ
      have hJ' : PJ w1 wr w.heap.size (w.heap.size + 1 + 1) (layS L u) (layP L u) (.slice none 0 0) (.slice none 0 0) (.slice none 0 0) d cx p := hJ
      have hq := (HLA.out k (by omega)).2
      rw [List.take_of_length_le (by omega)] at hq
      have hq1 : (layS L u).b.length ≤ 8 + 3003 * k := hq.1
      have hq2 : (layS L u).cs.length ≤ (layS L u).b.length := hq.2
      clear hJ HLA hq h HV hs hu0
      generalize hSe : layS L u = S at *
      have HSe := Lib.hid hSe
      clear hSe
      generalize hPe : layP L u = P at *
      have HPe := Lib.hid hPe
      clear hPe
      have j2 := hJ'.keep.bk k2 (fun ht => by have := pt_nil ht; omega)
      have j4 := hJ'.keep.bk k4 (fun ht => by have := pt_nil ht; omega)
      have hPI := hJ'.i
      obtain ⟨Ad, cd, rfl, hcd, -, -⟩ := own_form hPI.od
      obtain ⟨Ac, cc, rfl, hcc, -, -⟩ := own_form hPI.oc
      obtain ⟨Ap, cp, rfl, -, -, -⟩ := own_form hPI.op
      have p0 := hPI.box.cell 0
      have p1 := hPI.box.cell 1
      have r0 := j4.cell 0
      have r1 := j4.cell 1
      have r2 := j4.cell 2
      have r3 := j4.cell 3
      have z0 := j4.frozen 0
      have z1 := j4.frozen 1
      have z2 := j4.frozen 2
      have z3 := j4.frozen 3
      go_wp2_with fail
      have hK5 : Keep (fun i => i = w.heap.size + 1 + 1 + 1) wr ((((wr.setCell ⟨w.heap.size + 1 + 1 + 1, 0, none⟩ (.int .i64 252)).setCell ⟨w.heap.size + 1 + 1 + 1, 1, none⟩ (.slice Ad S.b.length cd)).setCell ⟨w.heap.size + 1 + 1 + 1, 2, none⟩ (.slice Ac S.cs.length cc)).setCell ⟨w.heap.size + 1 + 1 + 1, 3, none⟩ (.int .i64 0)) :=
        ((((Keep.refl (fun i => i = w.heap.size + 1 + 1 + 1) wr).setCell (p := ⟨w.heap.size + 1 + 1 + 1, 0, none⟩) (fun _ => rfl) _).setCell (p := ⟨w.heap.size + 1 + 1 + 1, 1, none⟩) (fun _ => rfl) _).setCell (p := ⟨w.heap.size + 1 + 1 + 1, 2, none⟩) (fun _ => rfl) _).setCell (p := ⟨w.heap.size + 1 + 1 + 1, 3, none⟩) (fun _ => rfl) _
      have m4 := (((j4.set_ 0 (.int .i64 252)).set_ 1 (.slice Ad S.b.length cd)).set_ 2 (.slice Ac S.cs.length cc)).set_ 3 (.int .i64 0)
      have m2 := hK5.bk j2 (by omega)
      have hP5 := hPI.keep hK5 (fun i hi he => by subst he; exact hPI.other j4 (by decide) (by decide) (by decide) hi)
      have hb5 : Below w.heap.size w _ := keep_below hbel hbel.size hK5 fun i ht => by omega
      clear p0 p1 r0 r1 r2 r3 z0 z1 z2 z3 j4 j2 hPI hJ' hbel
      generalize hW5 : (((wr.setCell ⟨w.heap.size + 1 + 1 + 1, 0, none⟩ (.int .i64 252)).setCell ⟨w.heap.size + 1 + 1 + 1, 1, none⟩ (.slice Ad S.b.length cd)).setCell ⟨w.heap.size + 1 + 1 + 1, 2, none⟩ (.slice Ac S.cs.length cc)).setCell ⟨w.heap.size + 1 + 1 + 1, 3, none⟩ (.int .i64 0) = w5 at *
      clear hW5 hK5
      have n4 : Bk w5 (w.heap.size + 1 + 1 + 1) 30 #[.int .i64 252, .slice Ad S.b.length cd, .slice Ac S.cs.length cc, .int .i64 0] := m4
      have g0 := n4.cell 0
      have g1 := n4.cell 1
      have g2 := n4.cell 2
      have g3 := n4.cell 3
      have HRC := Lib.hid (check_any (w := w5) (B := w5.heap.size) (r := ⟨252, S.b, S.cs, 0⟩) (D := Ad) (dc := cd) (C := Ac) (cc := cc) ⟨(own_form_rd hP5.od), (own_form_rd hP5.oc), ⟨hcd, by show S.b.length ≤ _; omega⟩, ⟨hcc, by show S.cs.length ≤ _; omega⟩, by show -9223372036854775808 ≤ (252 : Int) ∧ (252 : Int) ≤ 9223372036854775807; omega⟩ (Nat.le_refl _))
      rw [H1.out] at HRC
      clear m4
      go_wp2_with fail
      refine HRC.out.mono ?_
      rintro e w6 ⟨rfl, hb6⟩
      clear HRC g0 g1 g2 g3 H1
      have o4 := n4.below hb6 n4.lt
      have o2 := m2.below hb6 m2.lt
      have hP6 := hP5.below hb6
      have hb7 := hb5.trans (hb6.mono hb5.size)
      clear hb6 n4 m2 hP5 hb5
      have d0 := o2.cell 0
      have d1 := o2.cell 1
      have d2 := o2.cell 2
      have d3 := o2.cell 3
      have y0 := o2.frozen 0
      have y1 := o2.frozen 1
      have y2 := o2.frozen 2
      have y3 := o2.frozen 3
      clear o4
      go_wp2
      go_step3
      refine ⟨rfl, ?_⟩
      show Code.wp _ _ _ _ _
      go_wp2
      rw [Exit.noGoto_ret]
      have hKF := (((((Keep.refl (fun i => i = w.heap.size + 1) w6).setCell (p := ⟨w.heap.size + 1, 0, none⟩) (fun _ => rfl) (.int .i64 0)).setCell (p := ⟨w.heap.size + 1, 1, none⟩) (fun _ => rfl) (.slice none 0 0)).setCell (p := ⟨w.heap.size + 1, 2, none⟩) (fun _ => rfl) (.slice none 0 0)).setCell (p := ⟨w.heap.size + 1, 3, none⟩) (fun _ => rfl) (.int .i64 0))
      have hbF : Below w.heap.size w _ := keep_below hb7 hb7.size hKF fun i ht => by omega
      refine bodyPost_ret (v := .tuple #[.agg #[.int .i64 0, .slice none 0 0, .slice none 0 0, .int .i64 0], .slice none 0 0, .int .i64 E]) (by simp [results, Tryz.results24, go_sem, d0, d1, d2, d3]) rfl ?_
      exact ⟨_, _, _, rfl, World.ownsRow_nil _ _ _ _, World.ownsRow_nil _ _ _ _, World.ownsRow_nil _ _ _ _, hbF⟩

theorem lay_any {w : World} {B n c : Nat} {A : Option Addr} {L : List (List UInt8)} {u : Int} (HV : Val w) (h : Rd w B 1 A n (L.map tv)) (hB : B ≤ w.heap.size) (hn : n ≤ 1000) (hs : ∀ l ∈ L, l.length ≤ 100000) :
    Calls Tryz.prog 24 #[.agg #[.slice A n c, .int .i64 u]] w fun e w' => ∃ dv cv pv, e = .returned (.tuple #[.agg #[.int .i64 (encR L u).type, dv, cv, .int .i64 0], pv, .int .i64 (layE L u)]) ∧
      w'.ownsRow w.heap.size 5 1 dv (encR L u).data.length ((encR L u).data.map bv) ∧ w'.ownsRow w.heap.size 3 1 cv (encR L u).cuts.length ((encR L u).cuts.map iv) ∧ w'.ownsRow w.heap.size 3 1 pv (encP L u).length ((encP L u).map nv) ∧ Below w.heap.size w w' := by
  by_cases h0 : ckTab L u = 0
  · by_cases h1 : checkM (layR L u) = 0
    · exact lay_good HV h hB hn hs h0 h1
    · exact lay_long HV h hB hn hs h0 h1
  · exact lay_bad HV h hB hn hs h0
end Go.Proofs.YtllcecnkbndokaaGreatDoor
