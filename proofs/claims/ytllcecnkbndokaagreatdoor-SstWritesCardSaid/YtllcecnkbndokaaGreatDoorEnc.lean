/- sst.index by its contract. Conditions: the places read as such, are not too many, and go into four bytes. -/
/- sst.Encode, sst.Places by their contracts. Conditions: the texts read as such; neither they are too many nor one too long; utf8.ValidString keeps its contract. -/
import Derived.Test.YtllcecnkbndokaaGreatDoorLay
namespace Go.Proofs.YtllcecnkbndokaaGreatDoor
open Go.RowKit Go.Lib

/-- The index's bytes behind m of its places. -/
def xB (ps : List Nat) (m : Nat) : List UInt8 := lowB 8 2 ++ (List.range m).flatMap fun j => lowB (ps.getD (8 * j) 0) 4
theorem xB_succ (ps : List Nat) (m : Nat) : xB ps (m + 1) = xB ps m ++ lowB (ps.getD (8 * m) 0) 4 := by
  unfold xB
  rw [List.range_succ, List.flatMap_append, List.flatMap_cons, List.flatMap_nil, List.append_nil, List.append_assoc]
theorem xB_len (ps : List Nat) : ∀ m, (xB ps m).length = 2 + 4 * m
  | 0 => by simp [xB, lowB_len]
  | m + 1 => by rw [xB_succ, List.length_append, xB_len ps m, lowB_len]; omega
/-- The index's record. -/
def idxR (ps : List Nat) : RecM := ⟨255, xB ps ((ps.length + 7) / 8), cutsK (((xB ps ((ps.length + 7) / 8)).length - 1) / 224), 0⟩

theorem Rd.natAt {w : World} {B n i : Nat} {A : Option Addr} {ps : List Nat} (h : Rd w B 1 A n (ps.map nv)) (hi : i < n) : ∃ a p, A = some a ∧ a.block < B ∧ ps[i]? = some p ∧ w.cell? (a.add i) = some (.int .i64 (p : Nat)) := by
  obtain ⟨a, u, ha, hb, hu, hc⟩ := h.cell hi
  have hl : i < ps.length := by have := h.len; simp at this; omega
  rw [List.getElem?_map, List.getElem?_eq_getElem hl] at hu
  exact ⟨a, ps[i], ha, hb, List.getElem?_eq_getElem hl, by rw [hc]; simpa [nv] using hu.symm⟩
theorem Rd.nlen {w : World} {B n : Nat} {A : Option Addr} {ps : List Nat} (h : Rd w B 1 A n (ps.map nv)) : ps.length = n := by have := h.len; simp at this; exact this

set_option maxHeartbeats 8000000 in
set_option maxRecDepth 100000 in
theorem index_any {w : World} {B n c : Nat} {A : Option Addr} {ps : List Nat} (h : Rd w B 1 A n (ps.map nv)) (hB : B ≤ w.heap.size) (hn : n ≤ 1000) (hp : ∀ p ∈ ps, p < 4294967296) :
    Calls Tryz.prog 25 #[.slice A n c] w fun e w' => ∃ dv cv, e = .returned (.agg #[.int .i64 255, dv, cv, .int .i64 0]) ∧ w'.ownsRow w.heap.size 5 1 dv (idxR ps).data.length ((idxR ps).data.map bv) ∧ w'.ownsRow w.heap.size 3 1 cv (idxR ps).cuts.length ((idxR ps).cuts.map iv) ∧ Below w.heap.size w w' := by
  have hl := h.nlen
  have hP0 := fun W => lput16_any (w := W) (c := 0) (k := 8) (l := []) (Rd.nil W 0 1 none) (Nat.zero_le _) (by omega)
  rw [lputL_fit (s := 2) ⟨by omega, by omega⟩, lputE_fit (s := 2) ⟨by omega, by omega⟩, List.nil_append] at hP0
  have HP0 := Lib.hid hP0
  clear hP0
  obtain ⟨R, hR⟩ : ∃ R, idxR ps = R := ⟨_, rfl⟩
  have HR := Lib.hid hR
  rw [hR]
  clear hR
  go_enter Tryz.func25, Tryz.ntmps25
  go_wp2_with fail
  refine (HP0.out _).mono ?_
  rintro e w1 ⟨v1, rfl, o1, b1⟩
  obtain ⟨k1, hb1, hs1⟩ := bx1 b1
  obtain ⟨A1, c1, rfl, hc1, -, r1⟩ := own_form o1
  have e1 : (lowB ((8 : Int)).toNat 2) = xB ps 0 := rfl
  rw [e1] at r1 hc1
  rw [show (xB ps 0).length = 2 + 4 * 0 from rfl] at r1 hc1
  clear HP0 o1 b1
  go_wp2_with fail
  go_loopw [3, 5] (fun b i wr => ∃ (j : Nat) (A' : Option Addr) (c' : Nat), b = .slice A' (2 + 4 * j) c' ∧ i = .int .i64 ((8 * j : Nat) : Int) ∧ j ≤ (n + 7) / 8 ∧ 2 + 4 * j ≤ c' ∧ Rd wr wr.heap.size 1 A' (2 + 4 * j) ((xB ps j).map bv) ∧ Below w.heap.size w wr ∧ Bk wr w.heap.size 30 #[.int .i64 0, .slice none 0 0, .slice none 0 0, .int .i64 0]) (fun _ i _ => n + 8 - (Go.RowKit.intOf i).toNat)
  case atStart => exact ⟨0, A1, c1, rfl, rfl, Nat.zero_le _, hc1, r1, hb1, k1⟩
  case round =>
    clear r1 k1 hb1 hc1 hs1
    obtain ⟨j, A', c', rfl, rfl, hj, hc', hr, hbel, k1⟩ := hrel
    by_cases hjn : 8 * j < n
    · have hjn' : (8 * (j : Int)) < (n : Int) := by omega
      obtain ⟨a, p, rfl, hab, hpi, hcell⟩ := (h.belowMono hbel hB).natAt hjn
      have hps : ps.getD (8 * j) 0 = p := by rw [List.getD_eq_getElem?_getD, hpi]; rfl
      have hpl := hp p (List.mem_of_getElem? hpi)
      have hP := lput32_any (w := wr) (c := c') (k := (p : Int)) hr (Nat.le_refl _) (by omega)
      rw [lputL_fit (s := 4) ⟨by omega, by omega⟩, lputE_fit (s := 4) ⟨by omega, by omega⟩, Int.toNat_natCast, ← hps, ← xB_succ, xB_len, hps, show 2 + 4 * (j + 1) = 2 + 4 * j + 4 by omega] at hP
      have HP := Lib.hid hP
      clear hP hps hpi hr
      go_wp2_with fail
      refine HP.out.mono ?_
      rintro e w2 ⟨v2, rfl, o2, b2⟩
      obtain ⟨A2, c2, rfl, hc2, -, r2⟩ := own_form o2
      have k2 := k1.below b2 k1.lt
      have hb2 := hbel.trans (b2.mono hbel.size)
      clear HP o2 b2 k1 hbel hcell
      go_wp2
      go_roundw
      case rel => exact ⟨j + 1, A2, c2, by rw [show 2 + 4 * (j + 1) = 2 + 4 * j + 4 by omega], by go_num, by omega, by omega, r2, hb2, k2⟩
      case measure => simp [Go.RowKit.intOf]; omega
    · have hjn' : ¬ (8 * (j : Int)) < (n : Int) := by omega
      have hje : j = (n + 7) / 8 := by omega
      have hR := HR.out
      unfold idxR at hR
      rw [hl, ← hje] at hR
      have hxl := xB_len ps j
      have hCU := cut_any (w := wr) (B := wr.heap.size) (r := ⟨255, xB ps j, [], 0⟩) (D := A') (dc := c') (C := none) (cc := 0) ⟨by show Rd wr wr.heap.size 1 A' (xB ps j).length _; rw [hxl]; exact hr, Rd.nil _ _ _ _, ⟨by show (xB ps j).length ≤ _; omega, by show (xB ps j).length ≤ _; omega⟩, ⟨Nat.zero_le _, by simp⟩, by show -9223372036854775808 ≤ (255 : Int) ∧ (255 : Int) ≤ 9223372036854775807; omega⟩ (Nat.le_refl _) (by show (xB ps j).length ≤ _; omega)
      simp only [hxl, List.length_nil] at hCU
      obtain ⟨kc, hkc⟩ : ∃ kc, (2 + 4 * j - 1) / 224 = kc := ⟨_, rfl⟩
      rw [hkc] at hCU
      have HKC := Lib.hid hkc
      clear hkc
      have HCU := Lib.hid hCU
      have HRR := Lib.hid hR
      clear hCU hR HR hr hp h hje hj
      go_wp2_with fail
      refine HCU.out.mono ?_
      rintro e w2 ⟨dv, cv, rfl, o2, p2, b2⟩
      have k2 := k1.below b2 k1.lt
      have hb2 := hbel.trans (b2.mono hbel.size)
      obtain ⟨Ad, cd, rfl, -, -, -⟩ := own_form o2
      obtain ⟨Ac, cc, rfl, -, -, -⟩ := own_form p2
      have hk1 := k1.lt
      have hsz := hbel.size
      clear HCU k1
      have d0 := k2.cell 0
      have d1 := k2.cell 1
      have d2 := k2.cell 2
      have d3 := k2.cell 3
      have y0 := k2.frozen 0
      have y1 := k2.frozen 1
      have y2 := k2.frozen 2
      have y3 := k2.frozen 3
      go_wp2
      have hK : Keep (fun i => i = w.heap.size) w2 _ := ((((Keep.refl (fun i => i = w.heap.size) w2).setCell (p := ⟨w.heap.size, 0, none⟩) (fun _ => rfl) (.int .i64 255)).setCell (p := ⟨w.heap.size, 1, none⟩) (fun _ => rfl) (.slice Ad (2 + 4 * j) cd)).setCell (p := ⟨w.heap.size, 2, none⟩) (fun _ => rfl) (.slice Ac kc cc)).setCell (p := ⟨w.heap.size, 3, none⟩) (fun _ => rfl) (.int .i64 0)
      have q2 := own_mono (hK.own o2 fun i hi he => by subst he; exact own_ne o2 k2 (by decide) hi) hsz
      have r2 := own_mono (hK.own p2 fun i hi he => by subst he; exact own_ne p2 k2 (by decide) hi) hsz
      have hbF : Below w.heap.size w _ := keep_below hb2 hb2.size hK fun i ht => by omega
      refine bodyPost_ret (v := .agg #[.int .i64 255, .slice Ad (2 + 4 * j) cd, .slice Ac kc cc, .int .i64 0]) (by simp [results, Tryz.results25, go_sem, d0, d1, d2, d3]) rfl ?_
      rw [← HRR.out]
      refine ⟨_, _, rfl, ?_, ?_, hbF⟩
      · show World.ownsRow _ _ _ _ _ (xB ps j).length _
        rw [hxl]
        exact q2
      · show World.ownsRow _ _ _ _ _ (cutsK (((xB ps j).length - 1) / 224)).length _
        rw [cutsK_len, hxl, HKC.out]
        exact r2
end Go.Proofs.YtllcecnkbndokaaGreatDoor
namespace Go.Proofs.YtllcecnkbndokaaGreatDoor
open Go.RowKit Go.Lib

/-- What Encode tells as the index. -/
def encX (L : List (List UInt8)) (u : Int) : RecM := if layE L u = 0 then idxR (layP L u) else ⟨0, [], [], 0⟩

theorem places_bd {L : List (List UInt8)} {u : Int} (h : layE L u = 0) : ∀ p ∈ layP L u, p < 4294967296 := by
  have h0 : ckTab L u = 0 := by
    unfold layE at h
    split at h
    · assumption
    · rename_i h1; exact absurd h h1
  have hc : checkM (layR L u) = 0 := by unfold layE at h; rw [if_pos h0] at h; exact h
  have hd : (layR L u).data.length ≤ 65536 := by
    unfold checkM at hc
    split at hc
    · omega
    · split at hc
      · omega
      · omega
  have hd2 : (layT (begL L u) L).b.length ≤ 65536 := hd
  suffices ∀ (ls : List (List UInt8)) (S : LS), ∀ p ∈ placesT S ls, p ≤ (layT S ls).b.length from fun p hp => by
    have := this L (begL L u) p hp
    omega
  intro ls
  induction ls with
  | nil => intro S p hp; cases hp
  | cons l ls ih =>
    intro S p hp
    have e : layT S (l :: ls) = layT (putT S l) ls := rfl
    rcases List.mem_cons.1 hp with rfl | hp
    · obtain ⟨⟨q, hq⟩, -⟩ := (Ext.putT S l).trans (Ext.lay ls (putT S l))
      rw [e, hq, List.length_append]
      omega
    · rw [e]
      exact ih _ _ hp

set_option maxHeartbeats 8000000 in
set_option maxRecDepth 100000 in
theorem places_any {w : World} {B n c : Nat} {A : Option Addr} {L : List (List UInt8)} {u : Int} (HV : Val w) (h : Rd w B 1 A n (L.map tv)) (hB : B ≤ w.heap.size) (hn : n ≤ 1000) (hs : ∀ l ∈ L, l.length ≤ 100000) :
    Calls Tryz.prog 18 #[.agg #[.slice A n c, .int .i64 u]] w fun e w' => ∃ pv, e = .returned pv ∧ w'.ownsRow w.heap.size 3 1 pv (encP L u).length ((encP L u).map nv) ∧ Below w.heap.size w w' := by
  have HLY := Lib.hid (lay_any (c := c) (u := u) (HV.below (bx1' w (.cells #[.slice A n c, .int .i64 u] 34))) (h.belowMono (bx1' w (.cells #[.slice A n c, .int .i64 u] 34)) hB) (by simp; omega) hn hs)
  clear HV h hs
  generalize encR L u = R at *
  generalize layE L u = E at *
  generalize encP L u = P at *
  go_enter Tryz.func18, Tryz.ntmps18
  go_wp2_with fail
  refine HLY.out.mono ?_
  rintro e w1 ⟨dv, cv, pv, rfl, q1, q2, o1, hb⟩
  obtain ⟨k1, hb', s1⟩ := bx1 hb
  obtain ⟨Ad, cd, rfl, -, -, -⟩ := own_form q1
  obtain ⟨Ac, cc, rfl, -, -, -⟩ := own_form q2
  obtain ⟨Ap, cp, rfl, -, -, -⟩ := own_form o1
  clear HLY hb q1 q2
  have o2 := own_mono (o1.alloc (.cells #[.int .i64 R.type, .slice Ad R.data.length cd, .slice Ac R.cuts.length cc, .int .i64 0] 30)) (show w.heap.size ≤ _ by simp)
  have hbF := hb'.alloc hb'.size (.cells #[.int .i64 R.type, .slice Ad R.data.length cd, .slice Ac R.cuts.length cc, .int .i64 0] 30)
  go_wp2
  go_ret
  exact ⟨_, rfl, o2, hbF⟩

theorem three_boxes {w w1 : World} {T1 T2 T3 : TypeId} {c1 c2 c3 : Array Value} (hb : Below (((w.alloc (.cells c1 T1)).alloc (.cells c2 T2)).alloc (.cells c3 T3)).heap.size (((w.alloc (.cells c1 T1)).alloc (.cells c2 T2)).alloc (.cells c3 T3)) w1) :
    Bk w1 w.heap.size T1 c1 ∧ Bk w1 (w.heap.size + 1) T2 c2 ∧ Bk w1 (w.heap.size + 1 + 1) T3 c3 ∧ Below w.heap.size w w1 ∧ w.heap.size + 3 ≤ w1.heap.size := by
  have h3 := bx1 hb
  have h2 := bx1 h3.2.1
  have h1 := bx1 h2.2.1
  have e1 : (w.alloc (.cells c1 T1)).heap.size = w.heap.size + 1 := by simp
  have e2 : ((w.alloc (.cells c1 T1)).alloc (.cells c2 T2)).heap.size = w.heap.size + 1 + 1 := by simp
  refine ⟨h1.1, by have := h2.1; rwa [e1] at this, by have := h3.1; rwa [e2] at this, h1.2.1, ?_⟩
  have := hb.size
  simp at this
  omega

set_option maxHeartbeats 8000000 in
set_option maxRecDepth 100000 in
theorem encode_any {w : World} {B n c : Nat} {A : Option Addr} {L : List (List UInt8)} {u : Int} (HV : Val w) (h : Rd w B 1 A n (L.map tv)) (hB : B ≤ w.heap.size) (hn : n ≤ 1000) (hs : ∀ l ∈ L, l.length ≤ 100000) :
    Calls Tryz.prog 7 #[.agg #[.slice A n c, .int .i64 u]] w fun e w' => ∃ dv cv xv yv, e = .returned (.tuple #[.agg #[.int .i64 (encR L u).type, dv, cv, .int .i64 0], .agg #[.int .i64 (encX L u).type, xv, yv, .int .i64 0], .int .i64 (layE L u)]) ∧
      w'.ownsRow w.heap.size 5 1 dv (encR L u).data.length ((encR L u).data.map bv) ∧ w'.ownsRow w.heap.size 3 1 cv (encR L u).cuts.length ((encR L u).cuts.map iv) ∧
      w'.ownsRow w.heap.size 5 1 xv (encX L u).data.length ((encX L u).data.map bv) ∧ w'.ownsRow w.heap.size 3 1 yv (encX L u).cuts.length ((encX L u).cuts.map iv) ∧ Below w.heap.size w w' := by
  have hb3 : Below w.heap.size w (((w.alloc (.cells #[.slice A n c, .int .i64 u] 34)).alloc (.cells #[.int .i64 0, .slice none 0 0, .slice none 0 0, .int .i64 0] 30)).alloc (.cells #[.int .i64 0, .slice none 0 0, .slice none 0 0, .int .i64 0] 30)) := (((Below.refl w.heap.size w).alloc (Nat.le_refl _) _).alloc (by simp) _).alloc (by simp; omega) _
  have HLY := Lib.hid (lay_any (c := c) (u := u) (HV.below hb3) (h.belowMono hb3 hB) (Nat.le_trans hB hb3.size) hn hs)
  have hl := h.tlen
  by_cases h0 : layE L u = 0
  · have e1 : encX L u = idxR (layP L u) := by unfold encX; rw [if_pos h0]
    have e2 : encP L u = layP L u := by unfold encP; rw [if_pos h0]
    have hpn : (layP L u).length = n := by unfold layP; rw [places_len, hl]
    have HIX := Lib.hid (fun (W : World) (A : Option Addr) (c : Nat) (hr : Rd W W.heap.size 1 A (layP L u).length ((layP L u).map nv)) => index_any (c := c) hr (Nat.le_refl _) (by omega) (places_bd h0))
    have hly := HLY.out
    rw [h0, e2] at hly
    clear HLY
    have HLY := Lib.hid hly
    clear HV h hs hly e2
    rw [h0, e1]
    clear h0 e1
    generalize layP L u = P at *
    subst hpn
    generalize hX : idxR P = X at *
    have hX1 : X.type = 255 := by rw [← hX]; rfl
    rw [hX1]
    clear hX hX1
    generalize hR : encR L u = R at *
    clear hR
    go_enter Tryz.func7, Tryz.ntmps7
    go_wp2_with fail
    refine HLY.out.mono ?_
    rintro e w1 ⟨dv, cv, pv, rfl, o1, o2, o3, hb⟩
    obtain ⟨k1, k2, k3, hb', s1⟩ := three_boxes hb
    clear HLY
    have hs1 := hb.size
    obtain ⟨Ad, cd, rfl, -, -, -⟩ := own_form o1
    obtain ⟨Ac, cc, rfl, -, -, -⟩ := own_form o2
    obtain ⟨Ap, cp, rfl, -, -, rp⟩ := own_form o3
    clear o3 hb
    have hW := bx1' w1 (.cells #[.int .i64 R.type, .slice Ad R.data.length cd, .slice Ac R.cuts.length cc, .int .i64 0] 30)
    have k5 := Bk.new w1 30 #[.int .i64 R.type, .slice Ad R.data.length cd, .slice Ac R.cuts.length cc, .int .i64 0]
    have j2 := k2.below hW k2.lt
    have j3 := k3.below hW k3.lt
    have hb2 := hb'.trans (hW.mono hb'.size)
    have p1 := own_below o1 hW
    have p2 := own_below o2 hW
    have rp2 := (rp.belowMono hW (Nat.le_refl _)).mono hW.size
    have hg5 : w1.heap.size < (w1.alloc (.cells #[.int .i64 R.type, .slice Ad R.data.length cd, .slice Ac R.cuts.length cc, .int .i64 0] 30)).heap.size := by simp
    clear k1 k2 k3 hb' o1 o2 rp hW
    go_wp2_with fail
    generalize hWW : w1.alloc (.cells #[.int .i64 R.type, .slice Ad R.data.length cd, .slice Ac R.cuts.length cc, .int .i64 0] 30) = w2 at *
    clear hWW
    have a0 := k5.cell 0
    have a1 := k5.cell 1
    have a2 := k5.cell 2
    have a3 := k5.cell 3
    go_region_with ((go_at_call 25; refine (HIX.out _ Ap cp rp2.drew).mono ?_; rintro e w3 ⟨xv, yv, rfl, ox, oy, hb⟩; have hbx : Below w2.heap.size w2 w3 := (Below.refl w2.heap.size w2).drew.trans hb; obtain ⟨Ax, cx, rfl, -, -, -⟩ := own_form ox; obtain ⟨Ay, cy, rfl, -, -, -⟩ := own_form oy; have m2 := j2.below hbx j2.lt; have m3 := j3.below hbx j3.lt; have m5 := k5.below hbx hg5; have d0 := m2.cell 0; have d1 := m2.cell 1; have d2 := m2.cell 2; have d3 := m2.cell 3; have y0 := m2.frozen 0; have y1 := m2.frozen 1; have y2 := m2.frozen 2; have y3 := m2.frozen 3; have e0 := m3.cell 0; have e1 := m3.cell 1; have e2 := m3.cell 2; have e3 := m3.cell 3; have x0 := m3.frozen 0; have x1 := m3.frozen 1; have x2 := m3.frozen 2; have x3 := m3.frozen 3; have b0 := m5.cell 0; have b1 := m5.cell 1; have b2 := m5.cell 2; have b3 := m5.cell 3))
    all_goals
      go_wp2
      have hK : Keep (fun i => i = w.heap.size + 1 ∨ i = w.heap.size + 1 + 1) w3 _ := ((((((((Keep.refl (fun i => i = w.heap.size + 1 ∨ i = w.heap.size + 1 + 1) w3).setCell (p := ⟨w.heap.size + 1, 0, none⟩) (fun _ => .inl rfl) (.int .i64 R.type)).setCell (p := ⟨w.heap.size + 1, 1, none⟩) (fun _ => .inl rfl) (.slice Ad R.data.length cd)).setCell (p := ⟨w.heap.size + 1, 2, none⟩) (fun _ => .inl rfl) (.slice Ac R.cuts.length cc)).setCell (p := ⟨w.heap.size + 1, 3, none⟩) (fun _ => .inl rfl) (.int .i64 0)).setCell (p := ⟨w.heap.size + 1 + 1, 0, none⟩) (fun _ => .inr rfl) (.int .i64 255)).setCell (p := ⟨w.heap.size + 1 + 1, 1, none⟩) (fun _ => .inr rfl) (.slice Ax X.data.length cx)).setCell (p := ⟨w.heap.size + 1 + 1, 2, none⟩) (fun _ => .inr rfl) (.slice Ay X.cuts.length cy)).setCell (p := ⟨w.heap.size + 1 + 1, 3, none⟩) (fun _ => .inr rfl) (.int .i64 0)
      have hsz := hb2.size
      have hno : ∀ (v : Value) (m base : Nat) (t : TypeId) (xs : List Value), w3.ownsRow base t 1 v m xs → t ≠ 30 → ∀ i, v.ownBlock = some i → ¬ (i = w.heap.size + 1 ∨ i = w.heap.size + 1 + 1) := by
        intro v m base t xs ho ht i hi he
        rcases he with rfl | rfl
        · exact own_ne ho m2 ht hi
        · exact own_ne ho m3 ht hi
      have q1 := own_below p1 hbx
      have q2 := own_below p2 hbx
      have hbF : Below w.heap.size w _ := keep_below (hb2.trans (hbx.mono hb2.size)) (Nat.le_trans hb2.size hbx.size) hK fun i ht => by omega
      refine bodyPost_ret (v := .tuple #[.agg #[.int .i64 R.type, .slice Ad R.data.length cd, .slice Ac R.cuts.length cc, .int .i64 0], .agg #[.int .i64 255, .slice Ax X.data.length cx, .slice Ay X.cuts.length cy, .int .i64 0], .int .i64 0]) (by simp [results, Tryz.results7, go_sem, d0, d1, d2, d3, e0, e1, e2, e3]) rfl ?_
      have oz := own_mono ox (show w.heap.size ≤ _ from hsz)
      have ow := own_mono oy (show w.heap.size ≤ _ from hsz)
      exact ⟨_, _, _, _, rfl, own_mono (hK.own q1 (hno _ _ _ _ _ q1 (by decide))) hb3.size, own_mono (hK.own q2 (hno _ _ _ _ _ q2 (by decide))) hb3.size, hK.own oz (hno _ _ _ _ _ oz (by decide)), hK.own ow (hno _ _ _ _ _ ow (by decide)), hbF⟩
  · have e1 : encX L u = ⟨0, [], [], 0⟩ := by unfold encX; rw [if_neg h0]
    have e2 : encR L u = ⟨0, [], [], 0⟩ := by unfold encR; rw [if_neg h0]
    have hb0 : (layE L u != 0) = true := by simpa using h0
    have hly := HLY.out
    rw [e2] at hly
    rw [e1, e2]
    clear HLY HV h hs hb3 h0 e1 e2
    have HLY := Lib.hid hly
    clear hly
    generalize layE L u = E at *
    generalize encP L u = P at *
    go_enter Tryz.func7, Tryz.ntmps7
    go_wp2_with fail
    refine HLY.out.mono ?_
    rintro e w1 ⟨dv, cv, pv, rfl, o1, o2, o3, hb⟩
    obtain ⟨k1, k2, k3, hb', s1⟩ := three_boxes hb
    obtain ⟨Ad, cd, rfl, -, -, -⟩ := own_form o1
    obtain ⟨Ac, cc, rfl, -, -, -⟩ := own_form o2
    clear HLY o1 o2 hb k1
    have hW := bx1' w1 (.cells #[.int .i64 0, .slice Ad 0 cd, .slice Ac 0 cc, .int .i64 0] 30)
    have j2 := k2.below hW k2.lt
    have j3 := k3.below hW k3.lt
    have hb2 := hb'.trans (hW.mono hb'.size)
    clear hW k2 k3 hb'
    have d0 := j2.cell 0
    have d1 := j2.cell 1
    have d2 := j2.cell 2
    have d3 := j2.cell 3
    have y0 := j2.frozen 0
    have y1 := j2.frozen 1
    have y2 := j2.frozen 2
    have y3 := j2.frozen 3
    have e0 := j3.cell 0
    have e1 := j3.cell 1
    have e2 := j3.cell 2
    have e3 := j3.cell 3
    have x0 := j3.frozen 0
    have x1 := j3.frozen 1
    have x2 := j3.frozen 2
    have x3 := j3.frozen 3
    obtain ⟨Ap, cp, rfl, -, -, -⟩ := own_form o3
    clear o3
    go_wp2
    have hK : Keep (fun i => i = w.heap.size + 1 ∨ i = w.heap.size + 1 + 1) (w1.alloc (.cells #[.int .i64 0, .slice Ad 0 cd, .slice Ac 0 cc, .int .i64 0] 30)) _ := ((((((((Keep.refl (fun i => i = w.heap.size + 1 ∨ i = w.heap.size + 1 + 1) (w1.alloc (.cells #[.int .i64 0, .slice Ad 0 cd, .slice Ac 0 cc, .int .i64 0] 30))).setCell (p := ⟨w.heap.size + 1, 0, none⟩) (fun _ => .inl rfl) (.int .i64 0)).setCell (p := ⟨w.heap.size + 1, 1, none⟩) (fun _ => .inl rfl) (.slice none 0 0)).setCell (p := ⟨w.heap.size + 1, 2, none⟩) (fun _ => .inl rfl) (.slice none 0 0)).setCell (p := ⟨w.heap.size + 1, 3, none⟩) (fun _ => .inl rfl) (.int .i64 0)).setCell (p := ⟨w.heap.size + 1 + 1, 0, none⟩) (fun _ => .inr rfl) (.int .i64 0)).setCell (p := ⟨w.heap.size + 1 + 1, 1, none⟩) (fun _ => .inr rfl) (.slice none 0 0)).setCell (p := ⟨w.heap.size + 1 + 1, 2, none⟩) (fun _ => .inr rfl) (.slice none 0 0)).setCell (p := ⟨w.heap.size + 1 + 1, 3, none⟩) (fun _ => .inr rfl) (.int .i64 0)
    have hbF : Below w.heap.size w _ := keep_below hb2 hb2.size hK fun i ht => by omega
    refine bodyPost_ret (v := .tuple #[.agg #[.int .i64 0, .slice none 0 0, .slice none 0 0, .int .i64 0], .agg #[.int .i64 0, .slice none 0 0, .slice none 0 0, .int .i64 0], .int .i64 E]) (by simp [results, Tryz.results7, go_sem, d0, d1, d2, d3, e0, e1, e2, e3]) rfl ?_
    exact ⟨_, _, _, _, rfl, World.ownsRow_nil _ _ _ _, World.ownsRow_nil _ _ _ _, World.ownsRow_nil _ _ _ _, World.ownsRow_nil _ _ _ _, hbF⟩
end Go.Proofs.YtllcecnkbndokaaGreatDoor
