/- cashbookref7.EncodeTable, cashbookref7.Places by their contracts. Conditions: the texts read as such; neither they are too many nor one too long. -/
import Derived.Test.YtllcecnkbndokaaGreatDoorBLay
import Derived.Test.YtllcecnkbndokaaGreatDoorBRec
import Derived.Test.YtllcecnkbndokaaGreatDoorBCheck
import Derived.Test.YtllcecnkbndokaaGreatDoorEnc
namespace Go.Proofs.YtllcecnkbndokaaGreatDoor
open Go.RowKit Go.Lib

theorem placesT_get : ∀ (L : List (List UInt8)) (S : LS) (k p : Nat), (placesT S L)[k]? = some p → p = (layT S (L.take k)).b.length
  | [], _, _, _, h => by simp [placesT] at h
  | l :: L, S, 0, p, h => by simp [placesT] at h; subst h; rfl
  | l :: L, S, k + 1, p, h => by
    have := placesT_get L (putT S l) k p (by simpa [placesT] using h)
    rw [this]
    rfl
theorem layP_bd {L : List (List UInt8)} {u : Int} (h0 : ckTab L u = 0) (hn : L.length ≤ 1000) : ∀ p ∈ layP L u, p ≤ 3003008 := by
  intro p hp
  obtain ⟨k, hk, rfl⟩ := List.getElem_of_mem hp
  have h1 := placesT_get L (begL L u) k _ (List.getElem?_eq_getElem hk)
  have hkl : k < L.length := by unfold layP at hk; rw [places_len] at hk; exact hk
  have := (lay_at h0 k (by omega) hn).2.1
  have e : (layP L u)[k] = (layT (begL L u) (L.take k)).b.length := h1
  omega
theorem own_cap {w : World} {base n c : Nat} {e : TypeId} {A : Option Addr} {xs : List Value} (h : w.ownsRow base e 1 (.slice A n c) n xs) : n ≤ c := by
  obtain ⟨_, _, he, hc, -, -⟩ := own_form h
  injection he with _ _ h3
  omega
/-- What is held on the way: both results' boxes, the rows. -/
structure EB (w W : World) (S : LS) (ps : List Nat) (d x p : Value) : Prop where
  k2 : Bk W (w.heap.size + 1) 36 #[.int .i64 0, .slice none 0 0, .slice none 0 0, .int .i64 0]
  k3 : Bk W (w.heap.size + 1 + 1) 36 #[.int .i64 0, .slice none 0 0, .slice none 0 0, .int .i64 0]
  od : W.ownsRow w.heap.size 5 1 d S.b.length (S.b.map bv)
  oc : W.ownsRow w.heap.size 3 1 x S.cs.length (S.cs.map iv)
  op : W.ownsRow w.heap.size 3 1 p ps.length (ps.map nv)
  b : Below w.heap.size w W
theorem EB.below {w W W' : World} {S : LS} {ps : List Nat} {d x p : Value} (h : EB w W S ps d x p) (hb : Below W.heap.size W W') : EB w W' S ps d x p :=
  ⟨h.k2.below hb h.k2.lt, h.k3.below hb h.k3.lt, own_below h.od hb, own_below h.oc hb, own_below h.op hb, h.b.trans (hb.mono h.b.size)⟩

set_option maxHeartbeats 16000000 in
set_option maxRecDepth 100000 in
theorem bEnc_bad {w : World} {B n c : Nat} {A : Option Addr} {L : List (List UInt8)} {u : Int} (h : Rd w B 1 A n (L.map tv)) (hB : B ≤ w.heap.size) (hn : n ≤ 1000) (hs : ∀ l ∈ L, l.length ≤ 100000) (h0 : ckTab L u ≠ 0) :
    Calls Tryz.prog 9 #[.agg #[.slice A n c, .int .i64 u]] w fun e w' => ∃ dv cv xv yv, e = .returned (.tuple #[.agg #[.int .i64 (encR L u).type, dv, cv, .int .i64 0], .agg #[.int .i64 (encX L u).type, xv, yv, .int .i64 0], .int .i64 (layE L u)]) ∧
      w'.ownsRow w.heap.size 5 1 dv (encR L u).data.length ((encR L u).data.map bv) ∧ w'.ownsRow w.heap.size 3 1 cv (encR L u).cuts.length ((encR L u).cuts.map iv) ∧
      w'.ownsRow w.heap.size 5 1 xv (encX L u).data.length ((encX L u).data.map bv) ∧ w'.ownsRow w.heap.size 3 1 yv (encX L u).cuts.length ((encX L u).cuts.map iv) ∧ Below w.heap.size w w' := by
  have hb3 : Below w.heap.size w (((w.alloc (.cells #[.slice A n c, .int .i64 u] 24)).alloc (.cells #[.int .i64 0, .slice none 0 0, .slice none 0 0, .int .i64 0] 36)).alloc (.cells #[.int .i64 0, .slice none 0 0, .slice none 0 0, .int .i64 0] 36)) := (((Below.refl w.heap.size w).alloc (Nat.le_refl _) _).alloc (by simp) _).alloc (by simp; omega) _
  have HCK := Lib.hid (bCheck_any (c := c) (u := u) (h.belowMono hb3 hB) (Nat.le_trans hB hb3.size) hn hs)
  have hE : layE L u = ckTab L u := by unfold layE; rw [if_neg h0]
  have e1 : encX L u = ⟨0, [], [], 0⟩ := by unfold encX; rw [hE, if_neg h0]
  have e2 : encR L u = ⟨0, [], [], 0⟩ := by unfold encR; rw [hE, if_neg h0]
  have hb0 : (ckTab L u != 0) = true := by simpa using h0
  rw [e1, e2, hE]
  clear h hs hb3 h0 e1 e2 hE
  have hck := HCK.out
  clear HCK
  generalize ckTab L u = E at *
  have HCK := Lib.hid hck
  clear hck
  go_enter Tryz.func9, Tryz.ntmps9
  go_wp2_with fail
  refine HCK.out.mono ?_
  rintro e w1 ⟨rfl, hb⟩
  obtain ⟨k1, j2, j3, hb2, s1⟩ := three_boxes hb
  clear HCK hb k1
  have d0 := j2.cell 0
  have d1 := j2.cell 1
  have d2 := j2.cell 2
  have d3 := j2.cell 3
  have y0 := j2.frozen 0
  have y1 := j2.frozen 1
  have y2 := j2.frozen 2
  have y3 := j2.frozen 3
  have e0 := j3.cell 0
  have e1 := j3.cell 1
  have e2 := j3.cell 2
  have e3 := j3.cell 3
  have x0 := j3.frozen 0
  have x1 := j3.frozen 1
  have x2 := j3.frozen 2
  have x3 := j3.frozen 3
  go_wp2
  have hK : Keep (fun i => i = w.heap.size + 1 ∨ i = w.heap.size + 1 + 1) w1 _ := (((((((((Keep.refl (fun i => i = w.heap.size + 1 ∨ i = w.heap.size + 1 + 1) w1).setCell (p := ⟨w.heap.size + 1, 0, none⟩) (fun _ => .inl rfl) (.int .i64 0)).setCell (p := ⟨w.heap.size + 1, 1, none⟩) (fun _ => .inl rfl) (.slice none 0 0)).setCell (p := ⟨w.heap.size + 1, 2, none⟩) (fun _ => .inl rfl) (.slice none 0 0)).setCell (p := ⟨w.heap.size + 1, 3, none⟩) (fun _ => .inl rfl) (.int .i64 0)).setCell (p := ⟨w.heap.size + 1 + 1, 0, none⟩) (fun _ => .inr rfl) (.int .i64 0)).setCell (p := ⟨w.heap.size + 1 + 1, 1, none⟩) (fun _ => .inr rfl) (.slice none 0 0)).setCell (p := ⟨w.heap.size + 1 + 1, 2, none⟩) (fun _ => .inr rfl) (.slice none 0 0)).setCell (p := ⟨w.heap.size + 1 + 1, 3, none⟩) (fun _ => .inr rfl) (.int .i64 0))
  have hbF : Below w.heap.size w _ := keep_below hb2 hb2.size hK fun i ht => by omega
  refine bodyPost_ret (v := .tuple #[.agg #[.int .i64 0, .slice none 0 0, .slice none 0 0, .int .i64 0], .agg #[.int .i64 0, .slice none 0 0, .slice none 0 0, .int .i64 0], .int .i64 E]) (by simp [results, Tryz.results9, go_sem, d0, d1, d2, d3, e0, e1, e2, e3]) rfl ?_
  exact ⟨_, _, _, _, rfl, World.ownsRow_nil _ _ _ _, World.ownsRow_nil _ _ _ _, World.ownsRow_nil _ _ _ _, World.ownsRow_nil _ _ _ _, hbF⟩

set_option maxHeartbeats 16000000 in
set_option maxRecDepth 100000 in
theorem bEnc_long {w : World} {B n c : Nat} {A : Option Addr} {L : List (List UInt8)} {u : Int} (h : Rd w B 1 A n (L.map tv)) (hB : B ≤ w.heap.size) (hn : n ≤ 1000) (hs : ∀ l ∈ L, l.length ≤ 100000) (h0 : ckTab L u = 0) (h1 : checkM (layR L u) ≠ 0) :
    Calls Tryz.prog 9 #[.agg #[.slice A n c, .int .i64 u]] w fun e w' => ∃ dv cv xv yv, e = .returned (.tuple #[.agg #[.int .i64 (encR L u).type, dv, cv, .int .i64 0], .agg #[.int .i64 (encX L u).type, xv, yv, .int .i64 0], .int .i64 (layE L u)]) ∧
      w'.ownsRow w.heap.size 5 1 dv (encR L u).data.length ((encR L u).data.map bv) ∧ w'.ownsRow w.heap.size 3 1 cv (encR L u).cuts.length ((encR L u).cuts.map iv) ∧
      w'.ownsRow w.heap.size 5 1 xv (encX L u).data.length ((encX L u).data.map bv) ∧ w'.ownsRow w.heap.size 3 1 yv (encX L u).cuts.length ((encX L u).cuts.map iv) ∧ Below w.heap.size w w' := by
  have hb3 : Below w.heap.size w (((w.alloc (.cells #[.slice A n c, .int .i64 u] 24)).alloc (.cells #[.int .i64 0, .slice none 0 0, .slice none 0 0, .int .i64 0] 36)).alloc (.cells #[.int .i64 0, .slice none 0 0, .slice none 0 0, .int .i64 0] 36)) := (((Below.refl w.heap.size w).alloc (Nat.le_refl _) _).alloc (by simp) _).alloc (by simp; omega) _
  have hck := bCheck_any (c := c) (u := u) (h.belowMono hb3 hB) (Nat.le_trans hB hb3.size) hn hs
  rw [h0] at hck
  have HCK := Lib.hid hck
  have hl := h.tlen
  have hpn : (layP L u).length = n := by unfold layP; rw [places_len, hl]
  have HLA := Lib.hid (fun (W : World) (hb : Below w.heap.size w W) => bLay_any (c := c) (u := u) (h.belowMono hb hB) (Nat.le_trans hB hb.size) hn hs h0)
  have HPB := Lib.hid (layP_bd h0 (by omega))
  obtain ⟨-, hz1, hz2⟩ := lay_at h0 n (by omega) (by omega)
  rw [List.take_of_length_le (by omega)] at hz1 hz2
  have hz1 : (layS L u).b.length ≤ 8 + 3003 * n := hz1
  have hz2 : (layS L u).cs.length ≤ (layS L u).b.length := hz2
  have hE : layE L u = checkM (layR L u) := by unfold layE; rw [if_pos h0]
  have e1 : encX L u = ⟨0, [], [], 0⟩ := by unfold encX; rw [hE, if_neg h1]
  have e2 : encR L u = ⟨0, [], [], 0⟩ := by unfold encR; rw [hE, if_neg h1]
  have hb0 : (checkM ⟨252, (layS L u).b, (layS L u).cs, 0⟩ != 0) = true := by
    have h1' : ¬ checkM ⟨252, (layS L u).b, (layS L u).cs, 0⟩ = 0 := h1
    simpa using h1'
  rw [e1, e2, hE]
  have h1 : checkM (layR L u) = checkM ⟨252, (layS L u).b, (layS L u).cs, 0⟩ := rfl
  rw [h1]
  clear h1
  clear hck h hs hb3 h0 e1 e2 hE
  have hR : layR L u = ⟨252, (layS L u).b, (layS L u).cs, 0⟩ := rfl
  clear hR
  have hpl := hpn
  clear hpn
  generalize layP L u = ps at *
  generalize layS L u = S at *
  generalize hCM : checkM ⟨252, S.b, S.cs, 0⟩ = E at *
  have HCM := Lib.hid hCM
  clear hCM
  subst hpl
  go_enter Tryz.func9, Tryz.ntmps9
  go_wp2_with fail
  refine HCK.out.mono ?_
  rintro e w1 ⟨rfl, hb⟩
  obtain ⟨k1, k2, k3, hb2, s1⟩ := three_boxes hb
  clear HCK hb
  have c10 := k1.cell 0
  have c11 := k1.cell 1
  have HB1 := Lib.hid (And.intro k2 k3)
  clear k1 k2 k3
  go_wp2_with fail
  refine (HLA.out w1 hb2).mono ?_
  rintro e w2 ⟨dv, xv, pv, rfl, o1, o2, o3, hbl⟩
  have hEB := Lib.hid (show EB w w2 S ps dv xv pv from ⟨HB1.out.1.below hbl HB1.out.1.lt, HB1.out.2.below hbl HB1.out.2.lt, own_mono o1 hb2.size, own_mono o2 hb2.size, own_mono o3 hb2.size, hb2.trans (hbl.mono hb2.size)⟩)
  obtain ⟨Ad, cd, rfl, -, -, -⟩ := own_form o1
  obtain ⟨Ac, cc, rfl, -, -, -⟩ := own_form o2
  obtain ⟨Ap, cp, rfl, -, -, -⟩ := own_form o3
  clear o1 o2 o3 hbl HLA HB1 c10 c11
  go_wp2_with fail
  refine (putLow_any (n := 0) (c := 0) (A := none) (l := []) (v := 8) (s := 2) (Rd.nil _ 0 _ _) (Nat.zero_le _) (by omega) (by omega)).mono ?_
  rintro e w3 ⟨v3, rfl, ox, hbx⟩
  have hEB3 := hEB.out.below hbx
  have hox : w3.ownsRow w.heap.size 5 1 v3 (2 + 4 * 0) ((xB ps 0).map bv) := own_mono ox hEB.out.b.size
  obtain ⟨A3, c3, rfl, -, -, -⟩ := own_form hox
  clear hEB ox hbx hb2 s1
  go_wp2
  go_loopw [9, 10] (fun s9 s10 wr => ∃ (j : Nat) (A' : Option Addr) (c' : Nat), s9 = .slice A' (2 + 4 * j) c' ∧ s10 = .int .i64 ((8 * j : Nat) : Int) ∧ j ≤ (ps.length + 7) / 8 ∧ wr.ownsRow w.heap.size 5 1 (.slice A' (2 + 4 * j) c') (2 + 4 * j) ((xB ps j).map bv) ∧ EB w wr S ps (.slice Ad S.b.length cd) (.slice Ac S.cs.length cc) (.slice Ap ps.length cp)) (fun _ s10 _ => ps.length + 8 - (Go.RowKit.intOf s10).toNat)
  case atStart => exact ⟨0, A3, c3, rfl, rfl, Nat.zero_le _, hox, hEB3⟩
  case round =>
    clear hox hEB3
    obtain ⟨j, A', c', rfl, rfl, hj, hox, hEB⟩ := hrel
    by_cases hjn : 8 * j < ps.length
    · have hjn' : (8 * (j : Int)) < (ps.length : Int) := by omega
      obtain ⟨a, p, hA, hab, hpi, hcell⟩ := (own_form_rd hEB.op).natAt hjn
      subst hA
      have hps : ps.getD (8 * j) 0 = p := by rw [List.getD_eq_getElem?_getD, hpi]; rfl
      have hpl := HPB.out p (List.mem_of_getElem? hpi)
      have hP := putLow_any (w := wr) (c := c') (v := p) (s := 4) (own_form_rd hox) (Nat.le_refl _) (by omega) (by omega)
      rw [← hps, ← xB_succ, hps, show 2 + 4 * j + 4 = 2 + 4 * (j + 1) by omega] at hP
      have HP := Lib.hid hP
      have HEB := Lib.hid hEB
      have hwp : IntKind.u64.wrap (p : Int) = (p : Int) := IntWalk.u64_in _ ⟨by omega, by omega⟩
      clear hP hps hpi hox hEB
      go_wp2_with fail
      refine HP.out.mono ?_
      rintro e w4 ⟨v4, rfl, o4, b4⟩
      have hEB4 := HEB.out.below b4
      have ho4 := own_mono o4 HEB.out.b.size
      obtain ⟨A4, c4, rfl, -, -, -⟩ := own_form ho4
      clear HP o4 b4 HEB hcell hwp
      go_wp2
      go_roundw
      case rel => exact ⟨j + 1, A4, c4, by first | rfl | (rw [show 2 + 4 * (j + 1) = 2 + 4 * j + 4 by omega]), by go_num, by omega, ho4, hEB4⟩
      case measure => simp [Go.RowKit.intOf]; omega
    · have hjn' : ¬ (8 * (j : Int)) < (ps.length : Int) := by omega
      have hje : j = (ps.length + 7) / 8 := by omega
      have HJE := Lib.hid hje
      have HEB := Lib.hid hEB
      have HOX := Lib.hid hox
      have hW := bx1' wr (.cells #[.int .i64 252, .slice Ad S.b.length cd, .slice Ac S.cs.length cc, .int .i64 0] 36)
      have k4 := Bk.new wr 36 #[.int .i64 252, .slice Ad S.b.length cd, .slice Ac S.cs.length cc, .int .i64 0]
      have hEB5 := hEB.below hW
      have hox5 := own_below hox hW
      clear hox hEB hje hW HPB
      have hCR := checkRec_any (w := wr.alloc (.cells #[.int .i64 252, .slice Ad S.b.length cd, .slice Ac S.cs.length cc, .int .i64 0] 36)) (r := ⟨252, S.b, S.cs, 0⟩) (dc := cd) (cc := cc) ⟨own_form_rd hEB5.od, own_form_rd hEB5.oc, ⟨own_cap hEB5.od, by show S.b.length ≤ _; omega⟩, ⟨own_cap hEB5.oc, by show S.cs.length ≤ _; omega⟩, by show -9223372036854775808 ≤ (252 : Int) ∧ (252 : Int) ≤ 9223372036854775807; omega⟩ (Nat.le_refl _)
      rw [HCM.out] at hCR
      have HCR := Lib.hid hCR
      clear hCR HCM
      have HK := Lib.hid (And.intro hEB5 hox5)
      have a0 := k4.cell 0
      have a1 := k4.cell 1
      have a2 := k4.cell 2
      have a3 := k4.cell 3
      have hk4 := k4.lt
      clear hEB5 hox5
      go_wp2_with fail
      generalize hWW : wr.alloc (.cells #[.int .i64 252, .slice Ad S.b.length cd, .slice Ac S.cs.length cc, .int .i64 0] 36) = w5 at *
      clear hWW
      refine HCR.out.mono ?_
      rintro e w6 ⟨rfl, b6⟩
      have hEB6 := HK.out.1.below b6
      have hox6 := own_below HK.out.2 b6
      have k6 := k4.below b6 hk4
      have hb2 := hEB6.b
      have j2 := hEB6.k2
      have j3 := hEB6.k3
      clear HK HCR a0 a1 a2 a3 HEB HOX b6 k4 hk4
      have d0 := j2.cell 0
      have d1 := j2.cell 1
      have d2 := j2.cell 2
      have d3 := j2.cell 3
      have y0 := j2.frozen 0
      have y1 := j2.frozen 1
      have y2 := j2.frozen 2
      have y3 := j2.frozen 3
      have e0 := j3.cell 0
      have e1 := j3.cell 1
      have e2 := j3.cell 2
      have e3 := j3.cell 3
      have x0 := j3.frozen 0
      have x1 := j3.frozen 1
      have x2 := j3.frozen 2
      have x3 := j3.frozen 3
      clear k6 hox6
      go_wp2
      have hK : Keep (fun i => i = w.heap.size + 1 ∨ i = w.heap.size + 1 + 1) w6 _ := (((((((((Keep.refl (fun i => i = w.heap.size + 1 ∨ i = w.heap.size + 1 + 1) w6).setCell (p := ⟨w.heap.size + 1, 0, none⟩) (fun _ => .inl rfl) (.int .i64 0)).setCell (p := ⟨w.heap.size + 1, 1, none⟩) (fun _ => .inl rfl) (.slice none 0 0)).setCell (p := ⟨w.heap.size + 1, 2, none⟩) (fun _ => .inl rfl) (.slice none 0 0)).setCell (p := ⟨w.heap.size + 1, 3, none⟩) (fun _ => .inl rfl) (.int .i64 0)).setCell (p := ⟨w.heap.size + 1 + 1, 0, none⟩) (fun _ => .inr rfl) (.int .i64 0)).setCell (p := ⟨w.heap.size + 1 + 1, 1, none⟩) (fun _ => .inr rfl) (.slice none 0 0)).setCell (p := ⟨w.heap.size + 1 + 1, 2, none⟩) (fun _ => .inr rfl) (.slice none 0 0)).setCell (p := ⟨w.heap.size + 1 + 1, 3, none⟩) (fun _ => .inr rfl) (.int .i64 0))
      have hbF : Below w.heap.size w _ := keep_below hb2 hb2.size hK fun i ht => by omega
      refine bodyPost_ret (v := .tuple #[.agg #[.int .i64 0, .slice none 0 0, .slice none 0 0, .int .i64 0], .agg #[.int .i64 0, .slice none 0 0, .slice none 0 0, .int .i64 0], .int .i64 E]) (by simp [results, Tryz.results9, go_sem, d0, d1, d2, d3, e0, e1, e2, e3]) rfl ?_
      exact ⟨_, _, _, _, rfl, World.ownsRow_nil _ _ _ _, World.ownsRow_nil _ _ _ _, World.ownsRow_nil _ _ _ _, World.ownsRow_nil _ _ _ _, hbF⟩

set_option maxHeartbeats 16000000 in
set_option maxRecDepth 100000 in
theorem bEnc_good {w : World} {B n c : Nat} {A : Option Addr} {L : List (List UInt8)} {u : Int} (h : Rd w B 1 A n (L.map tv)) (hB : B ≤ w.heap.size) (hn : n ≤ 1000) (hs : ∀ l ∈ L, l.length ≤ 100000) (h0 : ckTab L u = 0) (h1 : checkM (layR L u) = 0) :
    Calls Tryz.prog 9 #[.agg #[.slice A n c, .int .i64 u]] w fun e w' => ∃ dv cv xv yv, e = .returned (.tuple #[.agg #[.int .i64 (encR L u).type, dv, cv, .int .i64 0], .agg #[.int .i64 (encX L u).type, xv, yv, .int .i64 0], .int .i64 (layE L u)]) ∧
      w'.ownsRow w.heap.size 5 1 dv (encR L u).data.length ((encR L u).data.map bv) ∧ w'.ownsRow w.heap.size 3 1 cv (encR L u).cuts.length ((encR L u).cuts.map iv) ∧
      w'.ownsRow w.heap.size 5 1 xv (encX L u).data.length ((encX L u).data.map bv) ∧ w'.ownsRow w.heap.size 3 1 yv (encX L u).cuts.length ((encX L u).cuts.map iv) ∧ Below w.heap.size w w' := by
  have hb3 : Below w.heap.size w (((w.alloc (.cells #[.slice A n c, .int .i64 u] 24)).alloc (.cells #[.int .i64 0, .slice none 0 0, .slice none 0 0, .int .i64 0] 36)).alloc (.cells #[.int .i64 0, .slice none 0 0, .slice none 0 0, .int .i64 0] 36)) := (((Below.refl w.heap.size w).alloc (Nat.le_refl _) _).alloc (by simp) _).alloc (by simp; omega) _
  have hck := bCheck_any (c := c) (u := u) (h.belowMono hb3 hB) (Nat.le_trans hB hb3.size) hn hs
  rw [h0] at hck
  have HCK := Lib.hid hck
  have hl := h.tlen
  have hpn : (layP L u).length = n := by unfold layP; rw [places_len, hl]
  have HLA := Lib.hid (fun (W : World) (hb : Below w.heap.size w W) => bLay_any (c := c) (u := u) (h.belowMono hb hB) (Nat.le_trans hB hb.size) hn hs h0)
  have HPB := Lib.hid (layP_bd h0 (by omega))
  obtain ⟨-, hz1, hz2⟩ := lay_at h0 n (by omega) (by omega)
  rw [List.take_of_length_le (by omega)] at hz1 hz2
  have hz1 : (layS L u).b.length ≤ 8 + 3003 * n := hz1
  have hz2 : (layS L u).cs.length ≤ (layS L u).b.length := hz2
  have hE : layE L u = 0 := by unfold layE; rw [if_pos h0]; exact h1
  have e1 : encX L u = idxR (layP L u) := by unfold encX; rw [if_pos hE]
  have e2 : encR L u = layR L u := by unfold encR; rw [if_pos hE]
  have h1 : checkM ⟨252, (layS L u).b, (layS L u).cs, 0⟩ = 0 := h1
  rw [e1, e2, hE]
  clear hck h hs hb3 h0 e1 e2 hE
  have hR : layR L u = ⟨252, (layS L u).b, (layS L u).cs, 0⟩ := rfl
  rw [hR]
  clear hR
  have hpl := hpn
  clear hpn
  generalize layP L u = ps at *
  generalize layS L u = S at *
  have HCM := Lib.hid h1
  clear h1
  subst hpl
  go_enter Tryz.func9, Tryz.ntmps9
  go_wp2_with fail
  refine HCK.out.mono ?_
  rintro e w1 ⟨rfl, hb⟩
  obtain ⟨k1, k2, k3, hb2, s1⟩ := three_boxes hb
  clear HCK hb
  have c10 := k1.cell 0
  have c11 := k1.cell 1
  have HB1 := Lib.hid (And.intro k2 k3)
  clear k1 k2 k3
  go_wp2_with fail
  refine (HLA.out w1 hb2).mono ?_
  rintro e w2 ⟨dv, xv, pv, rfl, o1, o2, o3, hbl⟩
  have hEB := Lib.hid (show EB w w2 S ps dv xv pv from ⟨HB1.out.1.below hbl HB1.out.1.lt, HB1.out.2.below hbl HB1.out.2.lt, own_mono o1 hb2.size, own_mono o2 hb2.size, own_mono o3 hb2.size, hb2.trans (hbl.mono hb2.size)⟩)
  obtain ⟨Ad, cd, rfl, -, -, -⟩ := own_form o1
  obtain ⟨Ac, cc, rfl, -, -, -⟩ := own_form o2
  obtain ⟨Ap, cp, rfl, -, -, -⟩ := own_form o3
  clear o1 o2 o3 hbl HLA HB1 c10 c11
  go_wp2_with fail
  refine (putLow_any (n := 0) (c := 0) (A := none) (l := []) (v := 8) (s := 2) (Rd.nil _ 0 _ _) (Nat.zero_le _) (by omega) (by omega)).mono ?_
  rintro e w3 ⟨v3, rfl, ox, hbx⟩
  have hEB3 := hEB.out.below hbx
  have hox : w3.ownsRow w.heap.size 5 1 v3 (2 + 4 * 0) ((xB ps 0).map bv) := own_mono ox hEB.out.b.size
  obtain ⟨A3, c3, rfl, -, -, -⟩ := own_form hox
  clear hEB ox hbx hb2 s1
  go_wp2
  go_loopw [9, 10] (fun s9 s10 wr => ∃ (j : Nat) (A' : Option Addr) (c' : Nat), s9 = .slice A' (2 + 4 * j) c' ∧ s10 = .int .i64 ((8 * j : Nat) : Int) ∧ j ≤ (ps.length + 7) / 8 ∧ wr.ownsRow w.heap.size 5 1 (.slice A' (2 + 4 * j) c') (2 + 4 * j) ((xB ps j).map bv) ∧ EB w wr S ps (.slice Ad S.b.length cd) (.slice Ac S.cs.length cc) (.slice Ap ps.length cp)) (fun _ s10 _ => ps.length + 8 - (Go.RowKit.intOf s10).toNat)
  case atStart => exact ⟨0, A3, c3, rfl, rfl, Nat.zero_le _, hox, hEB3⟩
  case round =>
    clear hox hEB3
    obtain ⟨j, A', c', rfl, rfl, hj, hox, hEB⟩ := hrel
    by_cases hjn : 8 * j < ps.length
    · have hjn' : (8 * (j : Int)) < (ps.length : Int) := by omega
      obtain ⟨a, p, hA, hab, hpi, hcell⟩ := (own_form_rd hEB.op).natAt hjn
      subst hA
      have hps : ps.getD (8 * j) 0 = p := by rw [List.getD_eq_getElem?_getD, hpi]; rfl
      have hpl := HPB.out p (List.mem_of_getElem? hpi)
      have hP := putLow_any (w := wr) (c := c') (v := p) (s := 4) (own_form_rd hox) (Nat.le_refl _) (by omega) (by omega)
      rw [← hps, ← xB_succ, hps, show 2 + 4 * j + 4 = 2 + 4 * (j + 1) by omega] at hP
      have HP := Lib.hid hP
      have HEB := Lib.hid hEB
      have hwp : IntKind.u64.wrap (p : Int) = (p : Int) := IntWalk.u64_in _ ⟨by omega, by omega⟩
      clear hP hps hpi hox hEB
      go_wp2_with fail
      refine HP.out.mono ?_
      rintro e w4 ⟨v4, rfl, o4, b4⟩
      have hEB4 := HEB.out.below b4
      have ho4 := own_mono o4 HEB.out.b.size
      obtain ⟨A4, c4, rfl, -, -, -⟩ := own_form ho4
      clear HP o4 b4 HEB hcell hwp
      go_wp2
      go_roundw
      case rel => exact ⟨j + 1, A4, c4, by first | rfl | (rw [show 2 + 4 * (j + 1) = 2 + 4 * j + 4 by omega]), by go_num, by omega, ho4, hEB4⟩
      case measure => simp [Go.RowKit.intOf]; omega
    · have hjn' : ¬ (8 * (j : Int)) < (ps.length : Int) := by omega
      have hje : j = (ps.length + 7) / 8 := by omega
      have HJE := Lib.hid hje
      have HEB := Lib.hid hEB
      have HOX := Lib.hid hox
      have hW := bx1' wr (.cells #[.int .i64 252, .slice Ad S.b.length cd, .slice Ac S.cs.length cc, .int .i64 0] 36)
      have k4 := Bk.new wr 36 #[.int .i64 252, .slice Ad S.b.length cd, .slice Ac S.cs.length cc, .int .i64 0]
      have hEB5 := hEB.below hW
      have hox5 := own_below hox hW
      clear hox hEB hje hW HPB
      have hCR := checkRec_any (w := wr.alloc (.cells #[.int .i64 252, .slice Ad S.b.length cd, .slice Ac S.cs.length cc, .int .i64 0] 36)) (r := ⟨252, S.b, S.cs, 0⟩) (dc := cd) (cc := cc) ⟨own_form_rd hEB5.od, own_form_rd hEB5.oc, ⟨own_cap hEB5.od, by show S.b.length ≤ _; omega⟩, ⟨own_cap hEB5.oc, by show S.cs.length ≤ _; omega⟩, by show -9223372036854775808 ≤ (252 : Int) ∧ (252 : Int) ≤ 9223372036854775807; omega⟩ (Nat.le_refl _)
      rw [HCM.out] at hCR
      have HCR := Lib.hid hCR
      clear hCR HCM
      have HK := Lib.hid (And.intro hEB5 hox5)
      have a0 := k4.cell 0
      have a1 := k4.cell 1
      have a2 := k4.cell 2
      have a3 := k4.cell 3
      have hk4 := k4.lt
      clear hEB5 hox5
      go_wp2_with fail
      generalize hWW : wr.alloc (.cells #[.int .i64 252, .slice Ad S.b.length cd, .slice Ac S.cs.length cc, .int .i64 0] 36) = w5 at *
      clear hWW
      refine HCR.out.mono ?_
      rintro e w6 ⟨rfl, b6⟩
      have hEB6 := HK.out.1.below b6
      have hox6 := own_below HK.out.2 b6
      have k6 := k4.below b6 hk4
      have hb2 := hEB6.b
      have j2 := hEB6.k2
      have j3 := hEB6.k3
      clear HK HCR a0 a1 a2 a3 HEB HOX b6 k4 hk4
      have hxl := xB_len ps j
      have HCU := Lib.hid (fun W => by
        have := cutRec_any (w := W) (r := ⟨255, xB ps j, [], 0⟩) (D := A') (dc := c') (C := none) (cc := 0) (by show (xB ps j).length ≤ _; omega)
        simp only [hxl, List.length_nil] at this
        exact this)
      obtain ⟨kc, hkc⟩ : ∃ kc, (2 + 4 * j - 1) / 224 = kc := ⟨_, rfl⟩
      rw [hkc] at HCU
      have HKC := Lib.hid hkc
      have HXL := Lib.hid hxl
      have a0 := k6.cell 0
      have a1 := k6.cell 1
      have a2 := k6.cell 2
      have a3 := k6.cell 3
      have hk6 := k6.lt
      clear hkc hxl
      have HE6 := Lib.hid hEB6
      have HO6 := Lib.hid hox6
      clear hEB6 hox6
      go_wp2_with fail
      go_region_with ((go_at_call 29; refine (HCU.out _).mono ?_; rintro e w7 ⟨yv, rfl, oy, hb⟩; have hbx : Below w6.heap.size w6 w7 := (Below.refl w6.heap.size w6).drew.trans hb; obtain ⟨Ay, cy, rfl, -, -, -⟩ := own_form oy; have m2 := j2.below hbx j2.lt; have m3 := j3.below hbx j3.lt; have m5 := k6.below hbx hk6; have d0 := m2.cell 0; have d1 := m2.cell 1; have d2 := m2.cell 2; have d3 := m2.cell 3; have y0 := m2.frozen 0; have y1 := m2.frozen 1; have y2 := m2.frozen 2; have y3 := m2.frozen 3; have e0 := m3.cell 0; have e1 := m3.cell 1; have e2 := m3.cell 2; have e3 := m3.cell 3; have x0 := m3.frozen 0; have x1 := m3.frozen 1; have x2 := m3.frozen 2; have x3 := m3.frozen 3; have b0 := m5.cell 0; have b1 := m5.cell 1; have b2 := m5.cell 2; have b3 := m5.cell 3))
      all_goals
        go_wp2
        have hK : Keep (fun i => i = w.heap.size + 1 ∨ i = w.heap.size + 1 + 1) w7 _ := (((((((((Keep.refl (fun i => i = w.heap.size + 1 ∨ i = w.heap.size + 1 + 1) w7).setCell (p := ⟨w.heap.size + 1, 0, none⟩) (fun _ => .inl rfl) (.int .i64 252)).setCell (p := ⟨w.heap.size + 1, 1, none⟩) (fun _ => .inl rfl) (.slice Ad S.b.length cd)).setCell (p := ⟨w.heap.size + 1, 2, none⟩) (fun _ => .inl rfl) (.slice Ac S.cs.length cc)).setCell (p := ⟨w.heap.size + 1, 3, none⟩) (fun _ => .inl rfl) (.int .i64 0)).setCell (p := ⟨w.heap.size + 1 + 1, 0, none⟩) (fun _ => .inr rfl) (.int .i64 255)).setCell (p := ⟨w.heap.size + 1 + 1, 1, none⟩) (fun _ => .inr rfl) (.slice A' (2 + 4 * j) c')).setCell (p := ⟨w.heap.size + 1 + 1, 2, none⟩) (fun _ => .inr rfl) (.slice Ay kc cy)).setCell (p := ⟨w.heap.size + 1 + 1, 3, none⟩) (fun _ => .inr rfl) (.int .i64 0))
        have hbF : Below w.heap.size w _ := keep_below (hb2.trans (hbx.mono hb2.size)) (Nat.le_trans hb2.size hbx.size) hK fun i ht => by omega
        refine bodyPost_ret (v := .tuple #[.agg #[.int .i64 252, .slice Ad S.b.length cd, .slice Ac S.cs.length cc, .int .i64 0], .agg #[.int .i64 255, .slice A' (2 + 4 * j) c', .slice Ay kc cy, .int .i64 0], .int .i64 0]) (by simp [results, Tryz.results9, go_sem, d0, d1, d2, d3, e0, e1, e2, e3]) rfl ?_
        have hsz := hb2.size
        have hno : ∀ (v : Value) (m base : Nat) (t : TypeId) (xs : List Value), w7.ownsRow base t 1 v m xs → t ≠ 36 → ∀ i, v.ownBlock = some i → ¬ (i = w.heap.size + 1 ∨ i = w.heap.size + 1 + 1) := by
          intro v m base t xs ho ht i hi he
          rcases he with rfl | rfl
          · exact own_ne ho m2 ht hi
          · exact own_ne ho m3 ht hi
        have q1 := own_below HE6.out.od hbx
        have q2 := own_below HE6.out.oc hbx
        have q3 := own_below HO6.out hbx
        have q4 := own_mono oy (show w.heap.size ≤ _ from hsz)
        have hID : idxR ps = ⟨255, xB ps j, cutsK kc, 0⟩ := by
          unfold idxR
          rw [← HJE.out, HXL.out, HKC.out]
        rw [hID]
        refine ⟨_, _, _, _, rfl, hK.own q1 (hno _ _ _ _ _ q1 (by decide)), hK.own q2 (hno _ _ _ _ _ q2 (by decide)), ?_, ?_, hbF⟩
        · show World.ownsRow _ _ _ _ _ (xB ps j).length _
          rw [HXL.out]
          exact hK.own q3 (hno _ _ _ _ _ q3 (by decide))
        · show World.ownsRow _ _ _ _ _ (cutsK kc).length _
          rw [cutsK_len]
          exact hK.own q4 (hno _ _ _ _ _ q4 (by decide))

theorem bEnc_any {w : World} {B n c : Nat} {A : Option Addr} {L : List (List UInt8)} {u : Int} (h : Rd w B 1 A n (L.map tv)) (hB : B ≤ w.heap.size) (hn : n ≤ 1000) (hs : ∀ l ∈ L, l.length ≤ 100000) :
    Calls Tryz.prog 9 #[.agg #[.slice A n c, .int .i64 u]] w fun e w' => ∃ dv cv xv yv, e = .returned (.tuple #[.agg #[.int .i64 (encR L u).type, dv, cv, .int .i64 0], .agg #[.int .i64 (encX L u).type, xv, yv, .int .i64 0], .int .i64 (layE L u)]) ∧
      w'.ownsRow w.heap.size 5 1 dv (encR L u).data.length ((encR L u).data.map bv) ∧ w'.ownsRow w.heap.size 3 1 cv (encR L u).cuts.length ((encR L u).cuts.map iv) ∧
      w'.ownsRow w.heap.size 5 1 xv (encX L u).data.length ((encX L u).data.map bv) ∧ w'.ownsRow w.heap.size 3 1 yv (encX L u).cuts.length ((encX L u).cuts.map iv) ∧ Below w.heap.size w w' := by
  by_cases h0 : ckTab L u = 0
  · by_cases h1 : checkM (layR L u) = 0
    · exact bEnc_good h hB hn hs h0 h1
    · exact bEnc_long h hB hn hs h0 h1
  · exact bEnc_bad h hB hn hs h0
set_option maxHeartbeats 4000000 in
theorem bPlaces_any {w : World} {B n c : Nat} {A : Option Addr} {L : List (List UInt8)} {u : Int} (h : Rd w B 1 A n (L.map tv)) (hB : B ≤ w.heap.size) (hn : n ≤ 1000) (hs : ∀ l ∈ L, l.length ≤ 100000) (h0 : ckTab L u = 0) :
    Calls Tryz.prog 19 #[.agg #[.slice A n c, .int .i64 u]] w fun e w' => ∃ p, e = .returned p ∧ w'.ownsRow w.heap.size 3 1 p (layP L u).length ((layP L u).map nv) ∧ Below w.heap.size w w' := by
  have hW := bx1' w (.cells #[.slice A n c, .int .i64 u] 24)
  have HLA := Lib.hid (bLay_any (c := c) (u := u) (h.belowMono hW hB) (Nat.le_trans hB hW.size) hn hs h0)
  clear h hs h0
  generalize layP L u = ps at *
  generalize layS L u = S at *
  go_enter Tryz.func19, Tryz.ntmps19
  go_wp2_with fail
  refine HLA.out.mono ?_
  rintro e w1 ⟨dv, cv, pv, rfl, o1, o2, o3, hb⟩
  have hb2 := hW.trans (hb.mono hW.size)
  have ho := own_mono o3 hW.size
  clear HLA o1 o2 o3 hb hW
  go_wp2
  go_ret
  exact ⟨_, rfl, ho, hb2⟩
end Go.Proofs.YtllcecnkbndokaaGreatDoor
