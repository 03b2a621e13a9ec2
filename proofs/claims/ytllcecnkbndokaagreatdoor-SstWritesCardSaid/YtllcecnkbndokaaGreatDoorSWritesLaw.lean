/- cashbooklaw7.SstWrites by its contract: it returns true. Conditions: the texts read as such; utf8.ValidString keeps its contract. -/
import Derived.Test.YtllcecnkbndokaaGreatDoorBEnc
import Derived.Test.YtllcecnkbndokaaGreatDoorCutLaw0
import Derived.Test.YtllcecnkbndokaaGreatDoorKnown7
import Derived.Test.YtllcecnkbndokaaGreatDoorPhase
import Derived.Test.YtllcecnkbndokaaGreatDoorLit
namespace Go.Proofs.YtllcecnkbndokaaGreatDoor
open Go.RowKit Go.Lib

/-- What is held on the way: the table's box, the records' boxes, their rows. -/
structure WS (w W : World) (A : Option Addr) (n c : Nat) (u : Int) (g3 g4 g6 g7 : Nat) (R X : RecM) (Ad : Option Addr) (cd : Nat) (Ac : Option Addr) (cc : Nat) (Ax : Option Addr) (cx : Nat) (Ay : Option Addr) (cy : Nat) (Bd : Option Addr) (bd : Nat) (Bc : Option Addr) (bc : Nat) (Bx : Option Addr) (bx : Nat) (By : Option Addr) (by_ : Nat) : Prop where
  k1 : Bk W w.heap.size 24 #[.slice A n c, .int .i64 u]
  k3 : Bk W g3 30 #[.int .i64 R.type, .slice Ad R.data.length cd, .slice Ac R.cuts.length cc, .int .i64 0]
  k4 : Bk W g4 30 #[.int .i64 X.type, .slice Ax X.data.length cx, .slice Ay X.cuts.length cy, .int .i64 0]
  k6 : Bk W g6 36 #[.int .i64 R.type, .slice Bd R.data.length bd, .slice Bc R.cuts.length bc, .int .i64 0]
  k7 : Bk W g7 36 #[.int .i64 X.type, .slice Bx X.data.length bx, .slice By X.cuts.length by_, .int .i64 0]
  od : W.ownsRow w.heap.size 5 1 (.slice Ad R.data.length cd) R.data.length (R.data.map bv)
  oc : W.ownsRow w.heap.size 3 1 (.slice Ac R.cuts.length cc) R.cuts.length (R.cuts.map iv)
  ox : W.ownsRow w.heap.size 5 1 (.slice Ax X.data.length cx) X.data.length (X.data.map bv)
  oy : W.ownsRow w.heap.size 3 1 (.slice Ay X.cuts.length cy) X.cuts.length (X.cuts.map iv)
  pd : W.ownsRow w.heap.size 5 1 (.slice Bd R.data.length bd) R.data.length (R.data.map bv)
  pc : W.ownsRow w.heap.size 3 1 (.slice Bc R.cuts.length bc) R.cuts.length (R.cuts.map iv)
  px : W.ownsRow w.heap.size 5 1 (.slice Bx X.data.length bx) X.data.length (X.data.map bv)
  py : W.ownsRow w.heap.size 3 1 (.slice By X.cuts.length by_) X.cuts.length (X.cuts.map iv)
  b : Below w.heap.size w W
section
variable {w W W' : World} {A : Option Addr} {n c : Nat} {u : Int} {g3 g4 g6 g7 : Nat} {R X : RecM} {Ad : Option Addr} {cd : Nat} {Ac : Option Addr} {cc : Nat} {Ax : Option Addr} {cx : Nat} {Ay : Option Addr} {cy : Nat} {Bd : Option Addr} {bd : Nat} {Bc : Option Addr} {bc : Nat} {Bx : Option Addr} {bx : Nat} {By : Option Addr} {by_ : Nat}
theorem WS.below (h : WS w W A n c u g3 g4 g6 g7 R X Ad cd Ac cc Ax cx Ay cy Bd bd Bc bc Bx bx By by_) (hb : Below W.heap.size W W') : WS w W' A n c u g3 g4 g6 g7 R X Ad cd Ac cc Ax cx Ay cy Bd bd Bc bc Bx bx By by_ :=
  ⟨h.k1.below hb h.k1.lt, h.k3.below hb h.k3.lt, h.k4.below hb h.k4.lt, h.k6.below hb h.k6.lt, h.k7.below hb h.k7.lt, own_below h.od hb, own_below h.oc hb, own_below h.ox hb, own_below h.oy hb, own_below h.pd hb, own_below h.pc hb, own_below h.px hb, own_below h.py hb, h.b.trans (hb.mono h.b.size)⟩
/-- How long, and of which type. -/
def Sz (R : RecM) : Prop := R.data.length ≤ 400000 ∧ R.cuts.length ≤ 400000 ∧ 0 ≤ R.type ∧ R.type ≤ 65535
theorem rec_rd {R : RecM} {D C : Option Addr} {d c base : Nat} (od : W.ownsRow base 5 1 (.slice D R.data.length d) R.data.length (R.data.map bv)) (oc : W.ownsRow base 3 1 (.slice C R.cuts.length c) R.cuts.length (R.cuts.map iv)) (hz : Sz R) : RecRd W W.heap.size R D d C c := by
  obtain ⟨h1, h2, h3, h4⟩ := hz
  exact ⟨own_form_rd od, own_form_rd oc, ⟨own_cap od, by omega⟩, ⟨own_cap oc, by omega⟩, by unfold Fit; omega⟩
theorem WS.r3 (h : WS w W A n c u g3 g4 g6 g7 R X Ad cd Ac cc Ax cx Ay cy Bd bd Bc bc Bx bx By by_) (hz : Sz R) : RecRd W W.heap.size R Ad cd Ac cc := rec_rd h.od h.oc hz
theorem WS.r4 (h : WS w W A n c u g3 g4 g6 g7 R X Ad cd Ac cc Ax cx Ay cy Bd bd Bc bc Bx bx By by_) (hz : Sz X) : RecRd W W.heap.size X Ax cx Ay cy := rec_rd h.ox h.oy hz
theorem WS.r6 (h : WS w W A n c u g3 g4 g6 g7 R X Ad cd Ac cc Ax cx Ay cy Bd bd Bc bc Bx bx By by_) (hz : Sz R) : RecRd W W.heap.size R Bd bd Bc bc := rec_rd h.pd h.pc hz
theorem WS.r7 (h : WS w W A n c u g3 g4 g6 g7 R X Ad cd Ac cc Ax cx Ay cy Bd bd Bc bc Bx bx By by_) (hz : Sz X) : RecRd W W.heap.size X Bx bx By by_ := rec_rd h.px h.py hz
structure WT (w W : World) (A : Option Addr) (n c : Nat) (u : Int) (g3 g4 g6 g7 : Nat) (R X : RecM) (Ad : Option Addr) (cd : Nat) (Ac : Option Addr) (cc : Nat) (Ax : Option Addr) (cx : Nat) (Ay : Option Addr) (cy : Nat) (Bd : Option Addr) (bd : Nat) (Bc : Option Addr) (bc : Nat) (Bx : Option Addr) (bx : Nat) (By : Option Addr) (by_ : Nat) (g9 : Nat) (Az : Option Addr) (cz : Nat) (L : List (List UInt8)) : Prop where
  ws : WS w W A n c u g3 g4 g6 g7 R X Ad cd Ac cc Ax cx Ay cy Bd bd Bc bc Bx bx By by_
  k9 : Bk W g9 34 #[.slice Az n cz, .int .i64 u]
  o9 : W.ownsRow w.heap.size 9 1 (.slice Az n cz) n (L.map tv)
theorem WT.below {g9 cz : Nat} {Az : Option Addr} {L : List (List UInt8)} (h : WT w W A n c u g3 g4 g6 g7 R X Ad cd Ac cc Ax cx Ay cy Bd bd Bc bc Bx bx By by_ g9 Az cz L) (hb : Below W.heap.size W W') : WT w W' A n c u g3 g4 g6 g7 R X Ad cd Ac cc Ax cx Ay cy Bd bd Bc bc Bx bx By by_ g9 Az cz L := ⟨h.ws.below hb, h.k9.below hb h.k9.lt, own_below h.o9 hb⟩
end
def FTT (n : Nat) (u : Int) (L : List (List UInt8)) (v : Value) (W : World) : Prop := ∃ A c, v = .agg #[.slice A n c, .int .i64 u] ∧ Rd W W.heap.size 1 A n (L.map tv)
theorem ftt_stable {n : Nat} {u : Int} {L : List (List UInt8)} : Stable (fun W W' => Below W.heap.size W W') (FTT n u L) := fun _ _ _ hE ⟨A, c, h, h1⟩ => ⟨A, c, h, (h1.belowMono hE (Nat.le_refl _)).mono hE.size⟩
def FPL (ps : List Nat) (v : Value) (W : World) : Prop := ∃ A c, v = .slice A ps.length c ∧ Rd W W.heap.size 1 A ps.length (ps.map nv)
theorem fpl_stable {ps : List Nat} : Stable (fun W W' => Below W.heap.size W W') (FPL ps) := fun _ _ _ hE ⟨A, c, h, h1⟩ => ⟨A, c, h, (h1.belowMono hE (Nat.le_refl _)).mono hE.size⟩
theorem idx_check {ps : List Nat} (h : ps.length ≤ 100) : checkM (idxR ps) = 0 := by
  have h1 : (xB ps ((ps.length + 7) / 8)).length ≤ 60 := by rw [xB_len]; omega
  have h2 : ((xB ps ((ps.length + 7) / 8)).length - 1) / 224 = 0 := by omega
  have h3 : idxR ps = ⟨255, xB ps ((ps.length + 7) / 8), [], 0⟩ := by unfold idxR; rw [h2]; rfl
  rw [h3]
  unfold checkM
  simp [riseB, longM]
  omega
theorem encR_sz {L : List (List UInt8)} {u : Int} (hn : L.length ≤ 100) : Sz (encR L u) ∧ (encR L u).at_ = 0 := by
  unfold encR
  split
  · rename_i h
    have h0 : ckTab L u = 0 := by
      unfold layE at h
      split at h
      · assumption
      · assumption
    obtain ⟨h1, h2, -⟩ := lay_sizes h0 hn
    exact ⟨⟨h1, h2, by show (0 : Int) ≤ 252; omega, by show (252 : Int) ≤ 65535; omega⟩, rfl⟩
  · exact ⟨⟨by simp, by simp, by simp, by simp⟩, rfl⟩
theorem encX_sz {L : List (List UInt8)} {u : Int} (hn : L.length ≤ 100) : Sz (encX L u) ∧ (encX L u).at_ = 0 := by
  by_cases h : layE L u = 0
  · obtain ⟨h1, h2⟩ := encX_bd (L := L) (u := u) (by omega) h
    have e : encX L u = idxR (layP L u) := by unfold encX; rw [if_pos h]
    refine ⟨⟨by omega, by omega, ?_, ?_⟩, ?_⟩
    · rw [e]; show (0 : Int) ≤ 255; omega
    · rw [e]; show (255 : Int) ≤ 65535; omega
    · rw [e]; rfl
  · have e : encX L u = ⟨0, [], [], 0⟩ := by unfold encX; rw [if_neg h]
    rw [e]
    exact ⟨⟨by simp, by simp, by simp, by simp⟩, rfl⟩

set_option maxHeartbeats 32000000 in
set_option maxRecDepth 100000 in
theorem sWritesLaw_any {w : World} {B n c : Nat} {A : Option Addr} {L : List (List UInt8)} {u : Int} (HV : Val w) (h : Rd w B 1 A n (L.map tv)) (hB : B ≤ w.heap.size) (hsz : ∀ l ∈ L, l.length ≤ 1000000000000000) :
    Calls Tryz.prog 3 #[.agg #[.slice A n c, .int .i64 u]] w fun e w' => e = .returned (.bool true) ∧ Below w.heap.size w w' := by
  have hl := h.tlen
  have HVV := Lib.hid HV
  clear HV
  have hW := bx1' w (.cells #[.slice A n c, .int .i64 u] 24)
  have k0 := Bk.new w 24 #[.slice A n c, .int .i64 u]
  go_enter Tryz.func3, Tryz.ntmps3
  go_wp2_with fail
  generalize hWW : w.alloc (.cells #[.slice A n c, .int .i64 u] 24) = w0 at *
  clear hWW
  refine (known_any (HVV.out.below hW)).mono ?_
  rintro e w1 ⟨rfl, b1⟩
  have k1 := k0.below b1 k0.lt
  have hb1 := hW.trans (b1.mono hW.size)
  have c10 := k1.cell 0
  have c11 := k1.cell 1
  have HFW := few_any (c := c) (h.belowMono hb1 hB) hsz
  clear hsz k0 hW b1
  cases hf : fewB L
  · rw [hf] at HFW
    go_wp2_with fail
    refine HFW.mono ?_
    rintro e w2 ⟨rfl, rfl⟩
    go_wp2
    go_ret
    exact ⟨rfl, hb1⟩
  · rw [hf] at HFW
    obtain ⟨hn, hss⟩ := fewB_len hf
    rw [hl] at hn
    have hsl : ∀ l ∈ L, l.length ≤ 100000 := fun l hl => by have := hss l hl; omega
    have HSL := Lib.hid hsl
    have HIN := Lib.hid (fun (W : World) (hb : Below w.heap.size w W) => h.belowMono hb hB)
    have HCK1 := Lib.hid (fun (W : World) (A' : Option Addr) (c' : Nat) (hb : Below w.heap.size w W) (hr : Rd W W.heap.size 1 A' n (L.map tv)) => checkTab_any (u := u) (c := c') (HVV.out.below hb) hr (Nat.le_refl _) (by omega) hsl)
    have HCK2 := Lib.hid (fun (W : World) (hb : Below w.heap.size w W) => bCheck_any (c := c) (u := u) (h.belowMono hb hB) (Nat.le_trans hB hb.size) (by omega) hsl)
    have HEN := Lib.hid (fun (W : World) (A' : Option Addr) (c' : Nat) (hb : Below w.heap.size w W) (hr : Rd W W.heap.size 1 A' n (L.map tv)) => encode_any (u := u) (c := c') (HVV.out.below hb) hr (Nat.le_refl _) (by omega) hsl)
    have HBE := Lib.hid (fun (W : World) (hb : Below w.heap.size w W) => bEnc_any (c := c) (u := u) (h.belowMono hb hB) (Nat.le_trans hB hb.size) (by omega) hsl)
    have HCM : Hid (layE L u = 0 → checkM (encR L u) = 0 ∧ checkM (encX L u) = 0) := Lib.hid (fun h0 => by
      have hck : ckTab L u = 0 := by
        unfold layE at h0
        split at h0
        · assumption
        · assumption
      have e1 : encR L u = layR L u := by unfold encR; rw [if_pos h0]
      have e2 : encX L u = idxR (layP L u) := by unfold encX; rw [if_pos h0]
      refine ⟨?_, ?_⟩
      · rw [e1]
        unfold layE at h0
        rw [if_pos hck] at h0
        exact h0
      · rw [e2]
        exact idx_check (by unfold layP; rw [places_len]; omega))
    have HDE : Hid (layE L u = 0 → (encR L u).type = 252 ∧ (encX L u).type = 255 ∧ ∀ (W : World) (A' D' : Option Addr) (c' d' : Nat) (XA XD : Option Addr) (xc' xd' : Nat), Below w.heap.size w W → Rd W W.heap.size 1 A' (encR L u).data.length ((encR L u).data.map bv) → W.ownsRow w.heap.size 3 1 (.slice D' (encR L u).cuts.length d') (encR L u).cuts.length ((encR L u).cuts.map iv) → (encR L u).data.length ≤ c' → RecRd W W.heap.size (encX L u) XA xc' XD xd' →
        Calls Tryz.prog 14 #[.agg #[.int .i64 252, .slice A' (encR L u).data.length c', .slice D' (encR L u).cuts.length d', .int .i64 0], .agg #[.int .i64 255, .slice XA (encX L u).data.length xc', .slice XD (encX L u).cuts.length xd', .int .i64 0]] W fun e w' => ∃ xv, e = .returned (.tuple #[.agg #[xv, .int .i64 u], .int .i64 0]) ∧ w'.ownsRow W.heap.size 9 1 xv n (L.map tv) ∧ Below W.heap.size W w') := Lib.hid (fun h0 => by
      have hck : ckTab L u = 0 := by
        unfold layE at h0
        split at h0
        · assumption
        · assumption
      have e1 : encR L u = layR L u := by unfold encR; rw [if_pos h0]
      have e2 : encX L u = idxR (layP L u) := by unfold encX; rw [if_pos h0]
      refine ⟨by rw [e1]; rfl, by rw [e2]; rfl, ?_⟩
      rw [e1]
      obtain ⟨z1, z2, -⟩ := lay_sizes hck (by omega)
      have hT := mc_tab hck (by omega) (MC.start (layS L u).cs (layP L u))
      rw [List.drop_zero, List.nil_append] at hT
      intro W A' D' c' d' XA XD xc' xd' hb hr hoc hc hXR
      have hup : (layS L u).cs.Pairwise (· ≤ ·) := hT.apart.imp fun h => by omega
      have := decode_good (c := c') (d := d') (a1 := 0) (a2 := 0) (HVV.out.below hb) hr (cutS_own (base := w.heap.size) hoc hup (by show (layS L u).cs.length ≤ _; omega)) hc (by show (layS L u).b.length ≤ _; omega) (Nat.le_refl _) hT hXR (by rw [e2]; rfl) (by rw [e2]; rfl) h0 hsl (by simp [sameM])
      rw [hl] at this
      exact this)
    have HPL1 : Hid (layE L u = 0 → ∀ (W : World) (A' : Option Addr) (c' : Nat), Below w.heap.size w W → Rd W W.heap.size 1 A' n (L.map tv) → Calls Tryz.prog 18 #[.agg #[.slice A' n c', .int .i64 u]] W fun e w' => ∃ pv, e = .returned pv ∧ w'.ownsRow W.heap.size 3 1 pv (layP L u).length ((layP L u).map nv) ∧ Below W.heap.size W w') := Lib.hid (fun h0 W A' c' hb hr => by
      have := places_any (u := u) (c := c') (HVV.out.below hb) hr (Nat.le_refl _) (by omega) hsl
      have e : encP L u = layP L u := by unfold encP; rw [if_pos h0]
      rw [e] at this
      exact this)
    have HPL2 : Hid (layE L u = 0 → ∀ (W : World), Below w.heap.size w W → Calls Tryz.prog 19 #[.agg #[.slice A n c, .int .i64 u]] W fun e w' => ∃ pv, e = .returned pv ∧ w'.ownsRow W.heap.size 3 1 pv (layP L u).length ((layP L u).map nv) ∧ Below W.heap.size W w') := Lib.hid (fun h0 W hb => by
      have hck : ckTab L u = 0 := by
        unfold layE at h0
        split at h0
        · assumption
        · assumption
      exact bPlaces_any (c := c) (u := u) (h.belowMono hb hB) (Nat.le_trans hB hb.size) (by omega) hsl hck)
    have HPL : Hid ((layP L u).length ≤ 1000) := Lib.hid (by unfold layP; rw [places_len]; omega)
    obtain ⟨hs1, ha1⟩ := encR_sz (L := L) (u := u) (by omega)
    obtain ⟨hs2, ha2⟩ := encX_sz (L := L) (u := u) (by omega)
    have HRS := Lib.hid hs1
    have HXS := Lib.hid hs2
    have HRA := Lib.hid ha1
    have HXA := Lib.hid ha2
    clear hsl hss hf hs1 hs2 ha1 ha2
    generalize layP L u = ps at *
    generalize layE L u = E at *
    generalize ckTab L u = K at *
    generalize encR L u = R at *
    generalize encX L u = X at *
    go_wp2_with fail
    refine HFW.mono ?_
    rintro e w2 ⟨rfl, rfl⟩
    clear HFW
    go_wp2_with fail
    refine (toTab_any (c := c) (u := u) (HIN.out w1 hb1) (Nat.le_trans hB hb1.size) (by omega)).mono ?_
    rintro e w3 ⟨A3, c3, rfl, r3, b3⟩
    have k3 := k1.below b3 k1.lt
    have hb3 := hb1.trans (b3.mono hb1.size)
    clear c10 c11 k1 b3 hb1
    go_wp2_with fail
    refine (HEN.out w3 A3 c3 hb3 r3).mono ?_
    rintro e w4 ⟨dv, cv, xv, yv, rfl, o1, o2, o3, o4, b4⟩
    obtain ⟨Ad, cd, rfl, -, -, -⟩ := own_form o1
    obtain ⟨Ac, cc, rfl, -, -, -⟩ := own_form o2
    obtain ⟨Ax, cx, rfl, -, -, -⟩ := own_form o3
    obtain ⟨Ay, cy, rfl, -, -, -⟩ := own_form o4
    have hW5 := (bx1' w4 (.cells #[.int .i64 R.type, .slice Ad R.data.length cd, .slice Ac R.cuts.length cc, .int .i64 0] 30)).trans ((bx1' (w4.alloc (.cells #[.int .i64 R.type, .slice Ad R.data.length cd, .slice Ac R.cuts.length cc, .int .i64 0] 30)) (.cells #[.int .i64 X.type, .slice Ax X.data.length cx, .slice Ay X.cuts.length cy, .int .i64 0] 30)).mono (by simp))
    have HW5 := Lib.hid hW5
    have hb4 := hb3.trans (b4.mono hb3.size)
    have hk1 := (k3.below b4 k3.lt).below hW5 (k3.below b4 k3.lt).lt
    have H5 := Lib.hid (show Bk ((w4.alloc (.cells #[.int .i64 R.type, .slice Ad R.data.length cd, .slice Ac R.cuts.length cc, .int .i64 0] 30)).alloc (.cells #[.int .i64 X.type, .slice Ax X.data.length cx, .slice Ay X.cuts.length cy, .int .i64 0] 30)) w4.heap.size 30 #[.int .i64 R.type, .slice Ad R.data.length cd, .slice Ac R.cuts.length cc, .int .i64 0] ∧ Bk ((w4.alloc (.cells #[.int .i64 R.type, .slice Ad R.data.length cd, .slice Ac R.cuts.length cc, .int .i64 0] 30)).alloc (.cells #[.int .i64 X.type, .slice Ax X.data.length cx, .slice Ay X.cuts.length cy, .int .i64 0] 30)) (w4.heap.size + 1) 30 #[.int .i64 X.type, .slice Ax X.data.length cx, .slice Ay X.cuts.length cy, .int .i64 0] ∧
        ((w4.alloc (.cells #[.int .i64 R.type, .slice Ad R.data.length cd, .slice Ac R.cuts.length cc, .int .i64 0] 30)).alloc (.cells #[.int .i64 X.type, .slice Ax X.data.length cx, .slice Ay X.cuts.length cy, .int .i64 0] 30)).ownsRow w.heap.size 5 1 (.slice Ad R.data.length cd) R.data.length (R.data.map bv) ∧ ((w4.alloc (.cells #[.int .i64 R.type, .slice Ad R.data.length cd, .slice Ac R.cuts.length cc, .int .i64 0] 30)).alloc (.cells #[.int .i64 X.type, .slice Ax X.data.length cx, .slice Ay X.cuts.length cy, .int .i64 0] 30)).ownsRow w.heap.size 3 1 (.slice Ac R.cuts.length cc) R.cuts.length (R.cuts.map iv) ∧
        ((w4.alloc (.cells #[.int .i64 R.type, .slice Ad R.data.length cd, .slice Ac R.cuts.length cc, .int .i64 0] 30)).alloc (.cells #[.int .i64 X.type, .slice Ax X.data.length cx, .slice Ay X.cuts.length cy, .int .i64 0] 30)).ownsRow w.heap.size 5 1 (.slice Ax X.data.length cx) X.data.length (X.data.map bv) ∧ ((w4.alloc (.cells #[.int .i64 R.type, .slice Ad R.data.length cd, .slice Ac R.cuts.length cc, .int .i64 0] 30)).alloc (.cells #[.int .i64 X.type, .slice Ax X.data.length cx, .slice Ay X.cuts.length cy, .int .i64 0] 30)).ownsRow w.heap.size 3 1 (.slice Ay X.cuts.length cy) X.cuts.length (X.cuts.map iv) ∧ Below w.heap.size w ((w4.alloc (.cells #[.int .i64 R.type, .slice Ad R.data.length cd, .slice Ac R.cuts.length cc, .int .i64 0] 30)).alloc (.cells #[.int .i64 X.type, .slice Ax X.data.length cx, .slice Ay X.cuts.length cy, .int .i64 0] 30)) from
      ⟨(Bk.new w4 _ _).alloc _, by have := Bk.new (w4.alloc (.cells #[.int .i64 R.type, .slice Ad R.data.length cd, .slice Ac R.cuts.length cc, .int .i64 0] 30)) 30 #[.int .i64 X.type, .slice Ax X.data.length cx, .slice Ay X.cuts.length cy, .int .i64 0]; rwa [show (w4.alloc (.cells #[.int .i64 R.type, .slice Ad R.data.length cd, .slice Ac R.cuts.length cc, .int .i64 0] 30)).heap.size = w4.heap.size + 1 by simp] at this, own_mono (own_below o1 hW5) hb3.size, own_mono (own_below o2 hW5) hb3.size, own_mono (own_below o3 hW5) hb3.size, own_mono (own_below o4 hW5) hb3.size, hb4.trans (hW5.mono hb4.size)⟩)
    clear o1 o2 o3 o4 b4 hb4 hW5 HW5 k3 r3
    have c10 := hk1.cell 0
    have c11 := hk1.cell 1
    go_wp2_with fail
    generalize hWW : (w4.alloc (.cells #[.int .i64 R.type, .slice Ad R.data.length cd, .slice Ac R.cuts.length cc, .int .i64 0] 30)).alloc (.cells #[.int .i64 X.type, .slice Ax X.data.length cx, .slice Ay X.cuts.length cy, .int .i64 0] 30) = w5 at *
    clear hWW
    have hb5 := H5.out.2.2.2.2.2.2
    generalize w4.heap.size = g3 at *
    refine (HBE.out w5 hb5).mono ?_
    rintro e w6 ⟨dv, cv, xv, yv, rfl, o1, o2, o3, o4, b6⟩
    obtain ⟨Bd, bd, rfl, -, -, -⟩ := own_form o1
    obtain ⟨Bc, bc, rfl, -, -, -⟩ := own_form o2
    obtain ⟨Bx, bx, rfl, -, -, -⟩ := own_form o3
    obtain ⟨By, by_, rfl, -, -, -⟩ := own_form o4
    have hW7 := (bx1' w6 (.cells #[.int .i64 R.type, .slice Bd R.data.length bd, .slice Bc R.cuts.length bc, .int .i64 0] 36)).trans ((bx1' (w6.alloc (.cells #[.int .i64 R.type, .slice Bd R.data.length bd, .slice Bc R.cuts.length bc, .int .i64 0] 36)) (.cells #[.int .i64 X.type, .slice Bx X.data.length bx, .slice By X.cuts.length by_, .int .i64 0] 36)).mono (by simp))
    have hb67 := b6.trans (hW7.mono b6.size)
    have HS0 := Lib.hid (show WS w ((w6.alloc (.cells #[.int .i64 R.type, .slice Bd R.data.length bd, .slice Bc R.cuts.length bc, .int .i64 0] 36)).alloc (.cells #[.int .i64 X.type, .slice Bx X.data.length bx, .slice By X.cuts.length by_, .int .i64 0] 36)) A n c u g3 (g3 + 1) w6.heap.size (w6.heap.size + 1) R X Ad cd Ac cc Ax cx Ay cy Bd bd Bc bc Bx bx By by_ from
      ⟨hk1.below hb67 hk1.lt, H5.out.1.below hb67 H5.out.1.lt, H5.out.2.1.below hb67 H5.out.2.1.lt, (Bk.new w6 _ _).alloc _, by have := Bk.new (w6.alloc (.cells #[.int .i64 R.type, .slice Bd R.data.length bd, .slice Bc R.cuts.length bc, .int .i64 0] 36)) 36 #[.int .i64 X.type, .slice Bx X.data.length bx, .slice By X.cuts.length by_, .int .i64 0]; rwa [show (w6.alloc (.cells #[.int .i64 R.type, .slice Bd R.data.length bd, .slice Bc R.cuts.length bc, .int .i64 0] 36)).heap.size = w6.heap.size + 1 by simp] at this,
        own_below H5.out.2.2.1 hb67, own_below H5.out.2.2.2.1 hb67, own_below H5.out.2.2.2.2.1 hb67, own_below H5.out.2.2.2.2.2.1 hb67, own_mono (own_below o1 hW7) hb5.size, own_mono (own_below o2 hW7) hb5.size, own_mono (own_below o3 hW7) hb5.size, own_mono (own_below o4 hW7) hb5.size, hb5.trans (hb67.mono hb5.size)⟩)
    clear o1 o2 o3 o4 b6 hW7 hb67 hk1 H5 c10 c11 hb5 hb3
    go_wp2_with fail
    generalize hWW : (w6.alloc (.cells #[.int .i64 R.type, .slice Bd R.data.length bd, .slice Bc R.cuts.length bc, .int .i64 0] 36)).alloc (.cells #[.int .i64 X.type, .slice Bx X.data.length bx, .slice By X.cuts.length by_, .int .i64 0] 36) = w7 at *
    clear hWW
    generalize w6.heap.size = g6 at *
    obtain ⟨g4, hg4⟩ : ∃ g4, g3 + 1 = g4 := ⟨_, rfl⟩
    obtain ⟨g7, hg7⟩ : ∃ g7, g6 + 1 = g7 := ⟨_, rfl⟩
    rw [hg4, hg7] at HS0
    simp only [hg4, hg7]
    clear hg4 hg7
    try simp only [List.append]
    refine wp_region_phases (S := (fun _ W => WS w W A n c u g3 g4 g6 g7 R X Ad cd Ac cc Ax cx Ay cy Bd bd Bc bc Bx bx By by_)) (E := (fun W W' => Below W.heap.size W W')) [] [(1, Is (.pointer (some ⟨w.heap.size, 0, none⟩))), (2, Is (.bool false)), (3, Is (.pointer (some ⟨g3, 0, none⟩))), (4, Is (.pointer (some ⟨g4, 0, none⟩))), (5, Is (.int .i64 E)), (6, Is (.pointer (some ⟨g6, 0, none⟩))), (7, Is (.pointer (some ⟨g7, 0, none⟩))), (8, Is (.int .i64 E))] [(30, Is (.int .i64 E)), (31, Is (.int .i64 E)), (32, Is (.bool false)), (33, Is (.bool false)), (34, Is (.agg #[.int .i64 R.type, .slice Ad R.data.length cd, .slice Ac R.cuts.length cc, .int .i64 0])), (35, Is (.agg #[.int .i64 R.type, .slice Ad R.data.length cd, .slice Ac R.cuts.length cc, .int .i64 0])), (36, Is (.agg #[.int .i64 R.type, .slice Bd R.data.length bd, .slice Bc R.cuts.length bc, .int .i64 0])), (37, Is (.bool true)), (38, Is (.bool false)), (39, Is (.bool false)), (40, Is (.bool false)), (41, Is (.agg #[.int .i64 X.type, .slice Ax X.data.length cx, .slice Ay X.cuts.length cy, .int .i64 0])), (42, Is (.agg #[.int .i64 X.type, .slice Ax X.data.length cx, .slice Ay X.cuts.length cy, .int .i64 0])), (43, Is (.agg #[.int .i64 X.type, .slice Bx X.data.length bx, .slice By X.cuts.length by_, .int .i64 0])), (44, Is (.bool true)), (45, Is (.bool false)), (46, Is (.bool false)), (47, Is (.bool false)), (48, Is (.agg #[.slice A n c, .int .i64 u])), (49, FTT n u L), (50, Is (.int .i64 K)), (51, Is (.agg #[.slice A n c, .int .i64 u])), (52, Is (.int .i64 K)), (53, Is (.bool false)), (54, Is (.bool false))]
      [.op [5] none, .op [8] none, .op [30, 31] none, .op [32] none, .op [3, 33] (some (33, false)), .op [34, 33] (some (33, false)), .op [6, 33] (some (33, false)), .op [35, 36, 33] (some (33, false)), .op [37, 33] (some (33, false)), .op [33, 38] none, .op [39] none, .op [4, 40] (some (40, false)), .op [41, 40] (some (40, false)), .op [7, 40] (some (40, false)), .op [42, 43, 40] (some (40, false)), .op [44, 40] (some (40, false)), .op [40, 45] none, .op [46] none, .op [1, 47] (some (47, false)), .op [48, 47] (some (47, false)), .op [49, 47] (some (47, false)), .op [1, 47] (some (47, false)), .op [51, 47] (some (47, false)), .op [50, 52, 47] (some (47, false)), .op [47, 53] none] (by as_aux_lemma => kernel_rfl) ?_ ?_ ?_ ?_ ?_ ⟨stable_isB _, stable_isB _, stable_isB _, stable_isB _, stable_isB _, stable_isB _, stable_isB _, stable_isB _, stable_isB _, stable_isB _, stable_isB _, stable_isB _, stable_isB _, stable_isB _, stable_isB _, stable_isB _, stable_isB _, stable_isB _, stable_isB _, stable_isB _, stable_isB _, stable_isB _, stable_isB _, stable_isB _, stable_isB _, stable_isB _, stable_isB _, ftt_stable, stable_isB _, stable_isB _, stable_isB _, stable_isB _, stable_isB _, trivial⟩ ?_ (HS0.out.below ((Below.refl _ _).drew)) ?_ ?_
    · as_aux_lemma => kernel_rfl
    · as_aux_lemma => kernel_rfl
    · as_aux_lemma => kernel_rfl
    · as_aux_lemma => kernel_rfl
    · as_aux_lemma => kernel_rfl
    · exact ⟨rfl, rfl, rfl, rfl, rfl, rfl, rfl, rfl, trivial⟩
    · refine ⟨?_, ?_, ?_, ?_, ?_, ?_, ?_, ?_, ?_, ?_, ?_, ?_, ?_, ?_, ?_, ?_, ?_, ?_, ?_, ?_, ?_, ?_, ?_, ?_, ?_, trivial⟩
      · as_aux_lemma =>
          intro vals a W hS hL
          have e5 : a.tmps.getD 5 undef = .int .i64 E := hL.1
          clear hL
          go_simp
          exact ⟨⟨fun d hd => by injection hd with hd; subst hd; rfl, fun h => by cases h⟩, hS, Below.refl _ _⟩
      · as_aux_lemma =>
          intro vals a W hS hL
          have e8 : a.tmps.getD 8 undef = .int .i64 E := hL.1
          clear hL
          go_simp
          exact ⟨⟨fun d hd => by injection hd with hd; subst hd; rfl, fun h => by cases h⟩, hS, Below.refl _ _⟩
      · as_aux_lemma =>
          intro vals a W hS hL
          have e30 : a.tmps.getD 30 undef = .int .i64 E := hL.1
          have e31 : a.tmps.getD 31 undef = .int .i64 E := hL.2.1
          clear hL
          have hEE : (E != E) = false := by simp
          have hKK : (K != K) = false := by simp
          go_simp
          exact ⟨⟨fun d hd => by injection hd with hd; subst hd; rfl, fun h => by cases h⟩, hS, Below.refl _ _⟩
      · as_aux_lemma =>
          intro vals a W hS hL
          have e32 : a.tmps.getD 32 undef = .bool false := hL.1
          clear hL
          go_simp
          exact ⟨⟨fun d hd => by injection hd with hd; subst hd; rfl, fun h => by cases h⟩, hS, Below.refl _ _⟩
      · as_aux_lemma =>
          intro vals a W hS hL
          have e3 : a.tmps.getD 3 undef = .pointer (some ⟨g3, 0, none⟩) := hL.1
          have e33 : a.tmps.getD 33 undef = .bool false := hL.2.1
          clear hL
          refine ⟨false, e33, ?_⟩
          rw [if_pos rfl]
          have kb : Bk W g3 30 #[.int .i64 R.type, .slice Ad R.data.length cd, .slice Ac R.cuts.length cc, .int .i64 0] := hS.k3
          have f0 := kb.cell 0
          have f1 := kb.cell 1
          have f2 := kb.cell 2
          have f3 := kb.cell 3
          clear kb
          go_simp
          exact ⟨⟨fun d hd => by injection hd with hd; subst hd; rfl, fun h => by cases h⟩, hS, Below.refl _ _⟩
      · as_aux_lemma =>
          intro vals a W hS hL
          have e34 : a.tmps.getD 34 undef = .agg #[.int .i64 R.type, .slice Ad R.data.length cd, .slice Ac R.cuts.length cc, .int .i64 0] := hL.1
          have e33 : a.tmps.getD 33 undef = .bool false := hL.2.1
          clear hL
          refine ⟨false, e33, ?_⟩
          rw [if_pos rfl]
          go_simp
          refine of1_any.mono ?_
          rintro e W' ⟨rfl, hb⟩
          exact ⟨_, rfl, ⟨fun d hd => by injection hd with hd; subst hd; rfl, fun h => by cases h⟩, hS.below hb, hb⟩
      · as_aux_lemma =>
          intro vals a W hS hL
          have e6 : a.tmps.getD 6 undef = .pointer (some ⟨g6, 0, none⟩) := hL.1
          have e33 : a.tmps.getD 33 undef = .bool false := hL.2.1
          clear hL
          refine ⟨false, e33, ?_⟩
          rw [if_pos rfl]
          have kb : Bk W g6 36 #[.int .i64 R.type, .slice Bd R.data.length bd, .slice Bc R.cuts.length bc, .int .i64 0] := hS.k6
          have f0 := kb.cell 0
          have f1 := kb.cell 1
          have f2 := kb.cell 2
          have f3 := kb.cell 3
          clear kb
          go_simp
          exact ⟨⟨fun d hd => by injection hd with hd; subst hd; rfl, fun h => by cases h⟩, hS, Below.refl _ _⟩
      · as_aux_lemma =>
          intro vals a W hS hL
          have e35 : a.tmps.getD 35 undef = .agg #[.int .i64 R.type, .slice Ad R.data.length cd, .slice Ac R.cuts.length cc, .int .i64 0] := hL.1
          have e36 : a.tmps.getD 36 undef = .agg #[.int .i64 R.type, .slice Bd R.data.length bd, .slice Bc R.cuts.length bc, .int .i64 0] := hL.2.1
          have e33 : a.tmps.getD 33 undef = .bool false := hL.2.2.1
          clear hL
          refine ⟨false, e33, ?_⟩
          rw [if_pos rfl]
          have hc := sameRec_any (w := W) (r := R) (s := R) (dc := cd) (cc := cc) (dc' := bd) (cc' := bc) (hS.r3 HRS.out) (hS.r6 HRS.out) (Nat.le_refl _) rfl rfl rfl
          rw [HRA.out] at hc
          have HC := Lib.hid hc
          clear hc
          go_simp
          refine HC.out.mono ?_
          rintro e W' ⟨rfl, hb⟩
          exact ⟨_, rfl, ⟨fun d hd => by injection hd with hd; subst hd; rfl, fun h => by cases h⟩, hS.below hb, hb⟩
      · as_aux_lemma =>
          intro vals a W hS hL
          have e37 : a.tmps.getD 37 undef = .bool true := hL.1
          have e33 : a.tmps.getD 33 undef = .bool false := hL.2.1
          clear hL
          refine ⟨false, e33, ?_⟩
          rw [if_pos rfl]
          go_simp
          exact ⟨⟨fun d hd => by injection hd with hd; subst hd; rfl, fun h => by cases h⟩, hS, Below.refl _ _⟩
      · as_aux_lemma =>
          intro vals a W hS hL
          have e33 : a.tmps.getD 33 undef = .bool false := hL.1
          have e38 : a.tmps.getD 38 undef = .bool false := hL.2.1
          clear hL
          go_simp
          exact ⟨⟨fun d hd => by injection hd with hd; subst hd; rfl, fun h => by cases h⟩, hS, Below.refl _ _⟩
      · as_aux_lemma =>
          intro vals a W hS hL
          have e39 : a.tmps.getD 39 undef = .bool false := hL.1
          clear hL
          go_simp
          exact ⟨⟨fun d hd => by injection hd with hd; subst hd; rfl, fun h => by cases h⟩, hS, Below.refl _ _⟩
      · as_aux_lemma =>
          intro vals a W hS hL
          have e4 : a.tmps.getD 4 undef = .pointer (some ⟨g4, 0, none⟩) := hL.1
          have e40 : a.tmps.getD 40 undef = .bool false := hL.2.1
          clear hL
          refine ⟨false, e40, ?_⟩
          rw [if_pos rfl]
          have kb : Bk W g4 30 #[.int .i64 X.type, .slice Ax X.data.length cx, .slice Ay X.cuts.length cy, .int .i64 0] := hS.k4
          have f0 := kb.cell 0
          have f1 := kb.cell 1
          have f2 := kb.cell 2
          have f3 := kb.cell 3
          clear kb
          go_simp
          exact ⟨⟨fun d hd => by injection hd with hd; subst hd; rfl, fun h => by cases h⟩, hS, Below.refl _ _⟩
      · as_aux_lemma =>
          intro vals a W hS hL
          have e41 : a.tmps.getD 41 undef = .agg #[.int .i64 X.type, .slice Ax X.data.length cx, .slice Ay X.cuts.length cy, .int .i64 0] := hL.1
          have e40 : a.tmps.getD 40 undef = .bool false := hL.2.1
          clear hL
          refine ⟨false, e40, ?_⟩
          rw [if_pos rfl]
          go_simp
          refine of1_any.mono ?_
          rintro e W' ⟨rfl, hb⟩
          exact ⟨_, rfl, ⟨fun d hd => by injection hd with hd; subst hd; rfl, fun h => by cases h⟩, hS.below hb, hb⟩
      · as_aux_lemma =>
          intro vals a W hS hL
          have e7 : a.tmps.getD 7 undef = .pointer (some ⟨g7, 0, none⟩) := hL.1
          have e40 : a.tmps.getD 40 undef = .bool false := hL.2.1
          clear hL
          refine ⟨false, e40, ?_⟩
          rw [if_pos rfl]
          have kb : Bk W g7 36 #[.int .i64 X.type, .slice Bx X.data.length bx, .slice By X.cuts.length by_, .int .i64 0] := hS.k7
          have f0 := kb.cell 0
          have f1 := kb.cell 1
          have f2 := kb.cell 2
          have f3 := kb.cell 3
          clear kb
          go_simp
          exact ⟨⟨fun d hd => by injection hd with hd; subst hd; rfl, fun h => by cases h⟩, hS, Below.refl _ _⟩
      · as_aux_lemma =>
          intro vals a W hS hL
          have e42 : a.tmps.getD 42 undef = .agg #[.int .i64 X.type, .slice Ax X.data.length cx, .slice Ay X.cuts.length cy, .int .i64 0] := hL.1
          have e43 : a.tmps.getD 43 undef = .agg #[.int .i64 X.type, .slice Bx X.data.length bx, .slice By X.cuts.length by_, .int .i64 0] := hL.2.1
          have e40 : a.tmps.getD 40 undef = .bool false := hL.2.2.1
          clear hL
          refine ⟨false, e40, ?_⟩
          rw [if_pos rfl]
          have hc := sameRec_any (w := W) (r := X) (s := X) (dc := cx) (cc := cy) (dc' := bx) (cc' := by_) (hS.r4 HXS.out) (hS.r7 HXS.out) (Nat.le_refl _) rfl rfl rfl
          rw [HXA.out] at hc
          have HC := Lib.hid hc
          clear hc
          go_simp
          refine HC.out.mono ?_
          rintro e W' ⟨rfl, hb⟩
          exact ⟨_, rfl, ⟨fun d hd => by injection hd with hd; subst hd; rfl, fun h => by cases h⟩, hS.below hb, hb⟩
      · as_aux_lemma =>
          intro vals a W hS hL
          have e44 : a.tmps.getD 44 undef = .bool true := hL.1
          have e40 : a.tmps.getD 40 undef = .bool false := hL.2.1
          clear hL
          refine ⟨false, e40, ?_⟩
          rw [if_pos rfl]
          go_simp
          exact ⟨⟨fun d hd => by injection hd with hd; subst hd; rfl, fun h => by cases h⟩, hS, Below.refl _ _⟩
      · as_aux_lemma =>
          intro vals a W hS hL
          have e40 : a.tmps.getD 40 undef = .bool false := hL.1
          have e45 : a.tmps.getD 45 undef = .bool false := hL.2.1
          clear hL
          go_simp
          exact ⟨⟨fun d hd => by injection hd with hd; subst hd; rfl, fun h => by cases h⟩, hS, Below.refl _ _⟩
      · as_aux_lemma =>
          intro vals a W hS hL
          have e46 : a.tmps.getD 46 undef = .bool false := hL.1
          clear hL
          go_simp
          exact ⟨⟨fun d hd => by injection hd with hd; subst hd; rfl, fun h => by cases h⟩, hS, Below.refl _ _⟩
      · as_aux_lemma =>
          intro vals a W hS hL
          have e1 : a.tmps.getD 1 undef = .pointer (some ⟨w.heap.size, 0, none⟩) := hL.1
          have e47 : a.tmps.getD 47 undef = .bool false := hL.2.1
          clear hL
          refine ⟨false, e47, ?_⟩
          rw [if_pos rfl]
          have kb : Bk W w.heap.size 24 #[.slice A n c, .int .i64 u] := hS.k1
          have f0 := kb.cell 0
          have f1 := kb.cell 1
          clear kb
          go_simp
          exact ⟨⟨fun d hd => by injection hd with hd; subst hd; rfl, fun h => by cases h⟩, hS, Below.refl _ _⟩
      · as_aux_lemma =>
          intro vals a W hS hL
          have e48 : a.tmps.getD 48 undef = .agg #[.slice A n c, .int .i64 u] := hL.1
          have e47 : a.tmps.getD 47 undef = .bool false := hL.2.1
          clear hL
          refine ⟨false, e47, ?_⟩
          rw [if_pos rfl]
          go_simp
          refine (toTab_any (c := c) (u := u) (HIN.out W hS.b) (Nat.le_trans hB hS.b.size) (by omega)).mono ?_
          rintro e W' ⟨A9, c9, rfl, r9, hb⟩
          exact ⟨_, rfl, ⟨fun d hd => by injection hd with hd; subst hd; exact ⟨A9, c9, rfl, r9⟩, fun h => by cases h⟩, hS.below hb, hb⟩
      · as_aux_lemma =>
          intro vals a W hS hL
          have e49 := hL.1
          have e47 : a.tmps.getD 47 undef = .bool false := hL.2.1
          clear hL
          refine ⟨false, e47, ?_⟩
          rw [if_pos rfl]
          obtain ⟨A9, c9, e49, r9⟩ := e49
          rw [Array.getD_eq_getD_getElem?] at e49
          have HC := HCK1.out W A9 c9 hS.b r9
          go_simp
          refine HC.mono ?_
          rintro e W' ⟨rfl, hb⟩
          exact ⟨_, rfl, ⟨fun d hd => by injection hd with hd; subst hd; rfl, fun h => by cases h⟩, hS.below hb, hb⟩
      · as_aux_lemma =>
          intro vals a W hS hL
          have e1 : a.tmps.getD 1 undef = .pointer (some ⟨w.heap.size, 0, none⟩) := hL.1
          have e47 : a.tmps.getD 47 undef = .bool false := hL.2.1
          clear hL
          refine ⟨false, e47, ?_⟩
          rw [if_pos rfl]
          have kb : Bk W w.heap.size 24 #[.slice A n c, .int .i64 u] := hS.k1
          have f0 := kb.cell 0
          have f1 := kb.cell 1
          clear kb
          go_simp
          exact ⟨⟨fun d hd => by injection hd with hd; subst hd; rfl, fun h => by cases h⟩, hS, Below.refl _ _⟩
      · as_aux_lemma =>
          intro vals a W hS hL
          have e51 : a.tmps.getD 51 undef = .agg #[.slice A n c, .int .i64 u] := hL.1
          have e47 : a.tmps.getD 47 undef = .bool false := hL.2.1
          clear hL
          refine ⟨false, e47, ?_⟩
          rw [if_pos rfl]
          have HC := HCK2.out W hS.b
          go_simp
          refine HC.mono ?_
          rintro e W' ⟨rfl, hb⟩
          exact ⟨_, rfl, ⟨fun d hd => by injection hd with hd; subst hd; rfl, fun h => by cases h⟩, hS.below hb, hb⟩
      · as_aux_lemma =>
          intro vals a W hS hL
          have e50 : a.tmps.getD 50 undef = .int .i64 K := hL.1
          have e52 : a.tmps.getD 52 undef = .int .i64 K := hL.2.1
          have e47 : a.tmps.getD 47 undef = .bool false := hL.2.2.1
          clear hL
          refine ⟨false, e47, ?_⟩
          rw [if_pos rfl]
          have hEE : (E != E) = false := by simp
          have hKK : (K != K) = false := by simp
          go_simp
          exact ⟨⟨fun d hd => by injection hd with hd; subst hd; rfl, fun h => by cases h⟩, hS, Below.refl _ _⟩
      · as_aux_lemma =>
          intro vals a W hS hL
          have e47 : a.tmps.getD 47 undef = .bool false := hL.1
          have e53 : a.tmps.getD 53 undef = .bool false := hL.2.1
          clear hL
          go_simp
          exact ⟨⟨fun d hd => by injection hd with hd; subst hd; rfl, fun h => by cases h⟩, hS, Below.refl _ _⟩
    · intro a W7 vals hd hsz hT hF hv hP hS
      have e1 : a.tmps.getD 1 undef = .pointer (some ⟨w.heap.size, 0, none⟩) := hT 1 (by simp)
      have e2 : a.tmps.getD 2 undef = .bool false := hT 2 (by simp)
      have e3 : a.tmps.getD 3 undef = .pointer (some ⟨g3, 0, none⟩) := hT 3 (by simp)
      have e4 : a.tmps.getD 4 undef = .pointer (some ⟨g4, 0, none⟩) := hT 4 (by simp)
      have e5 : a.tmps.getD 5 undef = .int .i64 E := hT 5 (by simp)
      have e6 : a.tmps.getD 6 undef = .pointer (some ⟨g6, 0, none⟩) := hT 6 (by simp)
      have e7 : a.tmps.getD 7 undef = .pointer (some ⟨g7, 0, none⟩) := hT 7 (by simp)
      have e8 : a.tmps.getD 8 undef = .int .i64 E := hT 8 (by simp)
      have e54 : a.tmps.getD 54 undef = .bool false := hT 54 (by simp)
      have HS := Lib.hid hS
      clear hT hF hP hS hv
      rw [act_lit 87 a hd hsz]
      simp only [List.range, List.range.loop, List.map, e1, e2, e3, e4, e5, e6, e7, e8, e54]
      clear e1 e2 e3 e4 e5 e6 e7 e8 e54 hd hsz
      generalize a.tmps.getD 0 undef = y0
      generalize a.tmps.getD 9 undef = y9
      generalize a.tmps.getD 10 undef = y10
      generalize a.tmps.getD 11 undef = y11
      generalize a.tmps.getD 12 undef = y12
      generalize a.tmps.getD 13 undef = y13
      generalize a.tmps.getD 14 undef = y14
      generalize a.tmps.getD 15 undef = y15
      generalize a.tmps.getD 16 undef = y16
      generalize a.tmps.getD 17 undef = y17
      generalize a.tmps.getD 18 undef = y18
      generalize a.tmps.getD 19 undef = y19
      generalize a.tmps.getD 20 undef = y20
      generalize a.tmps.getD 21 undef = y21
      generalize a.tmps.getD 22 undef = y22
      generalize a.tmps.getD 23 undef = y23
      generalize a.tmps.getD 24 undef = y24
      generalize a.tmps.getD 25 undef = y25
      generalize a.tmps.getD 26 undef = y26
      generalize a.tmps.getD 27 undef = y27
      generalize a.tmps.getD 28 undef = y28
      generalize a.tmps.getD 29 undef = y29
      generalize a.tmps.getD 30 undef = y30
      generalize a.tmps.getD 31 undef = y31
      generalize a.tmps.getD 32 undef = y32
      generalize a.tmps.getD 33 undef = y33
      generalize a.tmps.getD 34 undef = y34
      generalize a.tmps.getD 35 undef = y35
      generalize a.tmps.getD 36 undef = y36
      generalize a.tmps.getD 37 undef = y37
      generalize a.tmps.getD 38 undef = y38
      generalize a.tmps.getD 39 undef = y39
      generalize a.tmps.getD 40 undef = y40
      generalize a.tmps.getD 41 undef = y41
      generalize a.tmps.getD 42 undef = y42
      generalize a.tmps.getD 43 undef = y43
      generalize a.tmps.getD 44 undef = y44
      generalize a.tmps.getD 45 undef = y45
      generalize a.tmps.getD 46 undef = y46
      generalize a.tmps.getD 47 undef = y47
      generalize a.tmps.getD 48 undef = y48
      generalize a.tmps.getD 49 undef = y49
      generalize a.tmps.getD 50 undef = y50
      generalize a.tmps.getD 51 undef = y51
      generalize a.tmps.getD 52 undef = y52
      generalize a.tmps.getD 53 undef = y53
      generalize a.tmps.getD 55 undef = y55
      generalize a.tmps.getD 56 undef = y56
      generalize a.tmps.getD 57 undef = y57
      generalize a.tmps.getD 58 undef = y58
      generalize a.tmps.getD 59 undef = y59
      generalize a.tmps.getD 60 undef = y60
      generalize a.tmps.getD 61 undef = y61
      generalize a.tmps.getD 62 undef = y62
      generalize a.tmps.getD 63 undef = y63
      generalize a.tmps.getD 64 undef = y64
      generalize a.tmps.getD 65 undef = y65
      generalize a.tmps.getD 66 undef = y66
      generalize a.tmps.getD 67 undef = y67
      generalize a.tmps.getD 68 undef = y68
      generalize a.tmps.getD 69 undef = y69
      generalize a.tmps.getD 70 undef = y70
      generalize a.tmps.getD 71 undef = y71
      generalize a.tmps.getD 72 undef = y72
      generalize a.tmps.getD 73 undef = y73
      generalize a.tmps.getD 74 undef = y74
      generalize a.tmps.getD 75 undef = y75
      generalize a.tmps.getD 76 undef = y76
      generalize a.tmps.getD 77 undef = y77
      generalize a.tmps.getD 78 undef = y78
      generalize a.tmps.getD 79 undef = y79
      generalize a.tmps.getD 80 undef = y80
      generalize a.tmps.getD 81 undef = y81
      generalize a.tmps.getD 82 undef = y82
      generalize a.tmps.getD 83 undef = y83
      generalize a.tmps.getD 84 undef = y84
      generalize a.tmps.getD 85 undef = y85
      generalize a.tmps.getD 86 undef = y86
      by_cases hE : E = 0
      · subst hE
        have HQM := Lib.hid (HCM.out rfl)
        obtain ⟨hty, htx, hde⟩ := HDE.out rfl
        have HTY := Lib.hid (And.intro hty htx)
        have HDE0 := Lib.hid hde
        have HQ1 := Lib.hid (HPL1.out rfl)
        have HQ2 := Lib.hid (HPL2.out rfl)
        clear HCM HPL1 HPL2 HDE
        have c30 := HS.out.k3.cell 0
        have c31 := HS.out.k3.cell 1
        have c32 := HS.out.k3.cell 2
        have c33 := HS.out.k3.cell 3
        have c40 := HS.out.k4.cell 0
        have c41 := HS.out.k4.cell 1
        have c42 := HS.out.k4.cell 2
        have c43 := HS.out.k4.cell 3
        rw [hty] at c30
        rw [htx] at c40
        clear hty htx hde
        have HDC := Lib.hid (HDE0.out W7 Ad Ac cd cc Ax Ay cx cy HS.out.b (own_form_rd HS.out.od) HS.out.oc (own_cap HS.out.od) (HS.out.r4 HXS.out))
        go_wp2_with fail
        refine HDC.out.mono ?_
        rintro e w8 ⟨zv, rfl, o9, b9⟩
        obtain ⟨Az, cz, rfl, -, -, -⟩ := own_form o9
        have hW9 := bx1' w8 (.cells #[.slice Az n cz, .int .i64 u] 34)
        have HT0 := Lib.hid (show WT w (w8.alloc (.cells #[.slice Az n cz, .int .i64 u] 34)) A n c u g3 g4 g6 g7 R X Ad cd Ac cc Ax cx Ay cy Bd bd Bc bc Bx bx By by_ w8.heap.size Az cz L from ⟨(HS.out.below b9).below hW9, Bk.new _ _ _, own_mono (own_below o9 hW9) HS.out.b.size⟩)
        clear c30 c31 c32 c33 c40 c41 c42 c43 HDC HDE0 o9 b9 hW9 HS
        go_wp2_with fail
        generalize hWW : w8.alloc (.cells #[.slice Az n cz, .int .i64 u] 34) = w9 at *
        clear hWW
        generalize w8.heap.size = g9 at *
        try simp only [List.append]
        refine wp_region_phases (S := (fun _ W => WT w W A n c u g3 g4 g6 g7 R X Ad cd Ac cc Ax cx Ay cy Bd bd Bc bc Bx bx By by_ g9 Az cz L)) (E := (fun W W' => Below W.heap.size W W')) [] [(1, Is (.pointer (some ⟨w.heap.size, 0, none⟩))), (3, Is (.pointer (some ⟨g3, 0, none⟩))), (4, Is (.pointer (some ⟨g4, 0, none⟩))), (9, Is (.pointer (some ⟨g9, 0, none⟩))), (10, Is (.int .i64 0))] [(63, Is (.int .i64 0)), (64, Is (.bool true)), (65, Is (.bool true)), (66, Is (.agg #[.slice Az n cz, .int .i64 u])), (67, Is (.agg #[.slice Az n cz, .int .i64 u])), (68, Is (.agg #[.slice A n c, .int .i64 u])), (69, Is (.bool true)), (70, Is (.bool true)), (71, Is (.bool true)), (72, Is (.agg #[.slice A n c, .int .i64 u])), (73, FTT n u L), (74, FPL ps), (75, Is (.agg #[.slice A n c, .int .i64 u])), (76, FPL ps), (77, Is (.bool true)), (78, Is (.bool true)), (79, Is (.bool true)), (80, Is (.agg #[.int .i64 R.type, .slice Ad R.data.length cd, .slice Ac R.cuts.length cc, .int .i64 0])), (81, Is (.int .i64 0)), (82, Is (.agg #[.int .i64 X.type, .slice Ax X.data.length cx, .slice Ay X.cuts.length cy, .int .i64 0])), (83, Is (.int .i64 0)), (84, Is (.int .i64 0)), (85, Is (.bool true)), (86, Is (.bool true)), (2, Is (.bool true))]
          [.op [10] none, .op [63] none, .op [64] none, .op [9, 65] (some (65, true)), .op [66, 65] (some (65, true)), .op [1, 65] (some (65, true)), .op [67, 68, 65] (some (65, true)), .op [65, 69] none, .op [70] none, .op [1, 71] (some (71, true)), .op [72, 71] (some (71, true)), .op [73, 71] (some (71, true)), .op [1, 71] (some (71, true)), .op [75, 71] (some (71, true)), .op [74, 76, 71] (some (71, true)), .op [71, 77] none, .op [78] none, .op [3, 79] (some (79, true)), .op [80, 79] (some (79, true)), .op [4, 79] (some (79, true)), .op [82, 79] (some (79, true)), .op [81, 83, 79] (some (79, true)), .op [84, 79] (some (79, true)), .op [79, 85] none, .op [86] none] (by as_aux_lemma => kernel_rfl) ?_ ?_ ?_ ?_ ?_ ⟨stable_isB _, stable_isB _, stable_isB _, stable_isB _, stable_isB _, stable_isB _, stable_isB _, stable_isB _, stable_isB _, stable_isB _, stable_isB _, stable_isB _, stable_isB _, stable_isB _, stable_isB _, ftt_stable, fpl_stable, stable_isB _, fpl_stable, stable_isB _, stable_isB _, stable_isB _, stable_isB _, stable_isB _, stable_isB _, stable_isB _, stable_isB _, stable_isB _, stable_isB _, stable_isB _, trivial⟩ ?_ (HT0.out.below ((Below.refl _ _).drew)) ?_ ?_
        · as_aux_lemma => kernel_rfl
        · as_aux_lemma => kernel_rfl
        · as_aux_lemma => kernel_rfl
        · as_aux_lemma => kernel_rfl
        · as_aux_lemma => kernel_rfl
        · exact ⟨rfl, rfl, rfl, rfl, rfl, trivial⟩
        · refine ⟨?_, ?_, ?_, ?_, ?_, ?_, ?_, ?_, ?_, ?_, ?_, ?_, ?_, ?_, ?_, ?_, ?_, ?_, ?_, ?_, ?_, ?_, ?_, ?_, ?_, trivial⟩
          · as_aux_lemma =>
              intro vals a W hS hL
              have e10 : a.tmps.getD 10 undef = .int .i64 0 := hL.1
              clear hL
              go_simp
              exact ⟨⟨fun d hd => by injection hd with hd; subst hd; rfl, fun h => by cases h⟩, hS, Below.refl _ _⟩
          · as_aux_lemma =>
              intro vals a W hS hL
              have e63 : a.tmps.getD 63 undef = .int .i64 0 := hL.1
              clear hL
              go_simp
              exact ⟨⟨fun d hd => by injection hd with hd; subst hd; rfl, fun h => by cases h⟩, hS, Below.refl _ _⟩
          · as_aux_lemma =>
              intro vals a W hS hL
              have e64 : a.tmps.getD 64 undef = .bool true := hL.1
              clear hL
              go_simp
              exact ⟨⟨fun d hd => by injection hd with hd; subst hd; rfl, fun h => by cases h⟩, hS, Below.refl _ _⟩
          · as_aux_lemma =>
              intro vals a W hS hL
              have e9 : a.tmps.getD 9 undef = .pointer (some ⟨g9, 0, none⟩) := hL.1
              have e65 : a.tmps.getD 65 undef = .bool true := hL.2.1
              clear hL
              refine ⟨true, e65, ?_⟩
              rw [if_pos rfl]
              have kb : Bk W g9 34 #[.slice Az n cz, .int .i64 u] := hS.k9
              have f0 := kb.cell 0
              have f1 := kb.cell 1
              clear kb
              go_simp
              exact ⟨⟨fun d hd => by injection hd with hd; subst hd; rfl, fun h => by cases h⟩, hS, Below.refl _ _⟩
          · as_aux_lemma =>
              intro vals a W hS hL
              have e66 : a.tmps.getD 66 undef = .agg #[.slice Az n cz, .int .i64 u] := hL.1
              have e65 : a.tmps.getD 65 undef = .bool true := hL.2.1
              clear hL
              refine ⟨true, e65, ?_⟩
              rw [if_pos rfl]
              go_simp
              refine of_any.mono ?_
              rintro e W' ⟨rfl, hb⟩
              exact ⟨_, rfl, ⟨fun d hd => by injection hd with hd; subst hd; rfl, fun h => by cases h⟩, hS.below hb, hb⟩
          · as_aux_lemma =>
              intro vals a W hS hL
              have e1 : a.tmps.getD 1 undef = .pointer (some ⟨w.heap.size, 0, none⟩) := hL.1
              have e65 : a.tmps.getD 65 undef = .bool true := hL.2.1
              clear hL
              refine ⟨true, e65, ?_⟩
              rw [if_pos rfl]
              have kb : Bk W w.heap.size 24 #[.slice A n c, .int .i64 u] := hS.ws.k1
              have f0 := kb.cell 0
              have f1 := kb.cell 1
              clear kb
              go_simp
              exact ⟨⟨fun d hd => by injection hd with hd; subst hd; rfl, fun h => by cases h⟩, hS, Below.refl _ _⟩
          · as_aux_lemma =>
              intro vals a W hS hL
              have e67 : a.tmps.getD 67 undef = .agg #[.slice Az n cz, .int .i64 u] := hL.1
              have e68 : a.tmps.getD 68 undef = .agg #[.slice A n c, .int .i64 u] := hL.2.1
              have e65 : a.tmps.getD 65 undef = .bool true := hL.2.2.1
              clear hL
              refine ⟨true, e65, ?_⟩
              rw [if_pos rfl]
              have hc := sameTab_any (w := W) (c := cz) (c' := c) (u := u) (u' := u) (own_form_rd hS.o9) ((HIN.out W hS.ws.b).mono (Nat.le_trans hB hS.ws.b.size)) (Nat.le_refl _) (by omega) (by omega)
              rw [decide_eq_true rfl, decide_eq_true rfl, Bool.and_self] at hc
              have HC := Lib.hid hc
              clear hc
              go_simp
              refine HC.out.mono ?_
              rintro e W' ⟨rfl, hb⟩
              exact ⟨_, rfl, ⟨fun d hd => by injection hd with hd; subst hd; rfl, fun h => by cases h⟩, hS.below hb, hb⟩
          · as_aux_lemma =>
              intro vals a W hS hL
              have e65 : a.tmps.getD 65 undef = .bool true := hL.1
              have e69 : a.tmps.getD 69 undef = .bool true := hL.2.1
              clear hL
              go_simp
              exact ⟨⟨fun d hd => by injection hd with hd; subst hd; rfl, fun h => by cases h⟩, hS, Below.refl _ _⟩
          · as_aux_lemma =>
              intro vals a W hS hL
              have e70 : a.tmps.getD 70 undef = .bool true := hL.1
              clear hL
              go_simp
              exact ⟨⟨fun d hd => by injection hd with hd; subst hd; rfl, fun h => by cases h⟩, hS, Below.refl _ _⟩
          · as_aux_lemma =>
              intro vals a W hS hL
              have e1 : a.tmps.getD 1 undef = .pointer (some ⟨w.heap.size, 0, none⟩) := hL.1
              have e71 : a.tmps.getD 71 undef = .bool true := hL.2.1
              clear hL
              refine ⟨true, e71, ?_⟩
              rw [if_pos rfl]
              have kb : Bk W w.heap.size 24 #[.slice A n c, .int .i64 u] := hS.ws.k1
              have f0 := kb.cell 0
              have f1 := kb.cell 1
              clear kb
              go_simp
              exact ⟨⟨fun d hd => by injection hd with hd; subst hd; rfl, fun h => by cases h⟩, hS, Below.refl _ _⟩
          · as_aux_lemma =>
              intro vals a W hS hL
              have e72 : a.tmps.getD 72 undef = .agg #[.slice A n c, .int .i64 u] := hL.1
              have e71 : a.tmps.getD 71 undef = .bool true := hL.2.1
              clear hL
              refine ⟨true, e71, ?_⟩
              rw [if_pos rfl]
              go_simp
              refine (toTab_any (c := c) (u := u) (HIN.out W hS.ws.b) (Nat.le_trans hB hS.ws.b.size) (by omega)).mono ?_
              rintro e W' ⟨A9, c9, rfl, r9, hb⟩
              exact ⟨_, rfl, ⟨fun d hd => by injection hd with hd; subst hd; exact ⟨A9, c9, rfl, r9⟩, fun h => by cases h⟩, hS.below hb, hb⟩
          · as_aux_lemma =>
              intro vals a W hS hL
              have e73 := hL.1
              have e71 : a.tmps.getD 71 undef = .bool true := hL.2.1
              clear hL
              refine ⟨true, e71, ?_⟩
              rw [if_pos rfl]
              obtain ⟨A9, c9, e73, r9⟩ := e73
              rw [Array.getD_eq_getD_getElem?] at e73
              have HC := HQ1.out W A9 c9 hS.ws.b r9
              go_simp
              refine HC.mono ?_
              rintro e W' ⟨pv, rfl, o9, hb⟩
              obtain ⟨A8, c8, rfl, -, -, r8⟩ := own_form o9
              exact ⟨_, rfl, ⟨fun d hd => by injection hd with hd; subst hd; exact ⟨A8, c8, rfl, r8⟩, fun h => by cases h⟩, hS.below hb, hb⟩
          · as_aux_lemma =>
              intro vals a W hS hL
              have e1 : a.tmps.getD 1 undef = .pointer (some ⟨w.heap.size, 0, none⟩) := hL.1
              have e71 : a.tmps.getD 71 undef = .bool true := hL.2.1
              clear hL
              refine ⟨true, e71, ?_⟩
              rw [if_pos rfl]
              have kb : Bk W w.heap.size 24 #[.slice A n c, .int .i64 u] := hS.ws.k1
              have f0 := kb.cell 0
              have f1 := kb.cell 1
              clear kb
              go_simp
              exact ⟨⟨fun d hd => by injection hd with hd; subst hd; rfl, fun h => by cases h⟩, hS, Below.refl _ _⟩
          · as_aux_lemma =>
              intro vals a W hS hL
              have e75 : a.tmps.getD 75 undef = .agg #[.slice A n c, .int .i64 u] := hL.1
              have e71 : a.tmps.getD 71 undef = .bool true := hL.2.1
              clear hL
              refine ⟨true, e71, ?_⟩
              rw [if_pos rfl]
              have HC := HQ2.out W hS.ws.b
              go_simp
              refine HC.mono ?_
              rintro e W' ⟨pv, rfl, o9, hb⟩
              obtain ⟨A8, c8, rfl, -, -, r8⟩ := own_form o9
              exact ⟨_, rfl, ⟨fun d hd => by injection hd with hd; subst hd; exact ⟨A8, c8, rfl, r8⟩, fun h => by cases h⟩, hS.below hb, hb⟩
          · as_aux_lemma =>
              intro vals a W hS hL
              have e74 := hL.1
              have e76 := hL.2.1
              have e71 : a.tmps.getD 71 undef = .bool true := hL.2.2.1
              clear hL
              refine ⟨true, e71, ?_⟩
              rw [if_pos rfl]
              obtain ⟨A8, c8, e74, r8⟩ := e74
              obtain ⟨A9, c9, e76, r9⟩ := e76
              rw [Array.getD_eq_getD_getElem?] at e74 e76
              have hpl := HPL.out
              rw [nv_iv] at r8 r9
              have hc := ints_any (w := W) (c := c8) (c' := c9) r8 r9 (by omega) (by omega)
              rw [decide_eq_true rfl] at hc
              have HC := Lib.hid hc
              clear hc hpl
              go_simp
              refine HC.out.mono ?_
              rintro e W' ⟨rfl, hb⟩
              exact ⟨_, rfl, ⟨fun d hd => by injection hd with hd; subst hd; rfl, fun h => by cases h⟩, hS.below hb, hb⟩
          · as_aux_lemma =>
              intro vals a W hS hL
              have e71 : a.tmps.getD 71 undef = .bool true := hL.1
              have e77 : a.tmps.getD 77 undef = .bool true := hL.2.1
              clear hL
              go_simp
              exact ⟨⟨fun d hd => by injection hd with hd; subst hd; rfl, fun h => by cases h⟩, hS, Below.refl _ _⟩
          · as_aux_lemma =>
              intro vals a W hS hL
              have e78 : a.tmps.getD 78 undef = .bool true := hL.1
              clear hL
              go_simp
              exact ⟨⟨fun d hd => by injection hd with hd; subst hd; rfl, fun h => by cases h⟩, hS, Below.refl _ _⟩
          · as_aux_lemma =>
              intro vals a W hS hL
              have e3 : a.tmps.getD 3 undef = .pointer (some ⟨g3, 0, none⟩) := hL.1
              have e79 : a.tmps.getD 79 undef = .bool true := hL.2.1
              clear hL
              refine ⟨true, e79, ?_⟩
              rw [if_pos rfl]
              have kb : Bk W g3 30 #[.int .i64 R.type, .slice Ad R.data.length cd, .slice Ac R.cuts.length cc, .int .i64 0] := hS.ws.k3
              have f0 := kb.cell 0
              have f1 := kb.cell 1
              have f2 := kb.cell 2
              have f3 := kb.cell 3
              clear kb
              go_simp
              exact ⟨⟨fun d hd => by injection hd with hd; subst hd; rfl, fun h => by cases h⟩, hS, Below.refl _ _⟩
          · as_aux_lemma =>
              intro vals a W hS hL
              have e80 : a.tmps.getD 80 undef = .agg #[.int .i64 R.type, .slice Ad R.data.length cd, .slice Ac R.cuts.length cc, .int .i64 0] := hL.1
              have e79 : a.tmps.getD 79 undef = .bool true := hL.2.1
              clear hL
              refine ⟨true, e79, ?_⟩
              rw [if_pos rfl]
              have hc := check_any (w := W) (r := R) (dc := cd) (cc := cc) (hS.ws.r3 HRS.out) (Nat.le_refl _)
              rw [HRA.out, HQM.out.1] at hc
              have HC := Lib.hid hc
              clear hc
              go_simp
              refine HC.out.mono ?_
              rintro e W' ⟨rfl, hb⟩
              exact ⟨_, rfl, ⟨fun d hd => by injection hd with hd; subst hd; rfl, fun h => by cases h⟩, hS.below hb, hb⟩
          · as_aux_lemma =>
              intro vals a W hS hL
              have e4 : a.tmps.getD 4 undef = .pointer (some ⟨g4, 0, none⟩) := hL.1
              have e79 : a.tmps.getD 79 undef = .bool true := hL.2.1
              clear hL
              refine ⟨true, e79, ?_⟩
              rw [if_pos rfl]
              have kb : Bk W g4 30 #[.int .i64 X.type, .slice Ax X.data.length cx, .slice Ay X.cuts.length cy, .int .i64 0] := hS.ws.k4
              have f0 := kb.cell 0
              have f1 := kb.cell 1
              have f2 := kb.cell 2
              have f3 := kb.cell 3
              clear kb
              go_simp
              exact ⟨⟨fun d hd => by injection hd with hd; subst hd; rfl, fun h => by cases h⟩, hS, Below.refl _ _⟩
          · as_aux_lemma =>
              intro vals a W hS hL
              have e82 : a.tmps.getD 82 undef = .agg #[.int .i64 X.type, .slice Ax X.data.length cx, .slice Ay X.cuts.length cy, .int .i64 0] := hL.1
              have e79 : a.tmps.getD 79 undef = .bool true := hL.2.1
              clear hL
              refine ⟨true, e79, ?_⟩
              rw [if_pos rfl]
              have hc := check_any (w := W) (r := X) (dc := cx) (cc := cy) (hS.ws.r4 HXS.out) (Nat.le_refl _)
              rw [HXA.out, HQM.out.2] at hc
              have HC := Lib.hid hc
              clear hc
              go_simp
              refine HC.out.mono ?_
              rintro e W' ⟨rfl, hb⟩
              exact ⟨_, rfl, ⟨fun d hd => by injection hd with hd; subst hd; rfl, fun h => by cases h⟩, hS.below hb, hb⟩
          · as_aux_lemma =>
              intro vals a W hS hL
              have e81 : a.tmps.getD 81 undef = .int .i64 0 := hL.1
              have e83 : a.tmps.getD 83 undef = .int .i64 0 := hL.2.1
              have e79 : a.tmps.getD 79 undef = .bool true := hL.2.2.1
              clear hL
              refine ⟨true, e79, ?_⟩
              rw [if_pos rfl]
              go_simp
              exact ⟨⟨fun d hd => by injection hd with hd; subst hd; rfl, fun h => by cases h⟩, hS, Below.refl _ _⟩
          · as_aux_lemma =>
              intro vals a W hS hL
              have e84 : a.tmps.getD 84 undef = .int .i64 0 := hL.1
              have e79 : a.tmps.getD 79 undef = .bool true := hL.2.1
              clear hL
              refine ⟨true, e79, ?_⟩
              rw [if_pos rfl]
              go_simp
              exact ⟨⟨fun d hd => by injection hd with hd; subst hd; rfl, fun h => by cases h⟩, hS, Below.refl _ _⟩
          · as_aux_lemma =>
              intro vals a W hS hL
              have e79 : a.tmps.getD 79 undef = .bool true := hL.1
              have e85 : a.tmps.getD 85 undef = .bool true := hL.2.1
              clear hL
              go_simp
              exact ⟨⟨fun d hd => by injection hd with hd; subst hd; rfl, fun h => by cases h⟩, hS, Below.refl _ _⟩
          · as_aux_lemma =>
              intro vals a W hS hL
              have e86 : a.tmps.getD 86 undef = .bool true := hL.1
              clear hL
              go_simp
              exact ⟨⟨fun d hd => by injection hd with hd; subst hd; rfl, fun h => by cases h⟩, hS, Below.refl _ _⟩
        · intro a W7 vals hd hsz hT hF hv hP hS
          have e2 : a.tmps.getD 2 undef = .bool true := hT 2 (by simp)
          have HS := Lib.hid hS
          clear hT hF hP hS hv
          rw [act_lit 87 a hd hsz]
          simp only [List.range, List.range.loop, List.map, e2]
          clear e2 hd hsz
          generalize a.tmps.getD 0 undef = y0
          generalize a.tmps.getD 1 undef = y1
          generalize a.tmps.getD 3 undef = y3
          generalize a.tmps.getD 4 undef = y4
          generalize a.tmps.getD 5 undef = y5
          generalize a.tmps.getD 6 undef = y6
          generalize a.tmps.getD 7 undef = y7
          generalize a.tmps.getD 8 undef = y8
          generalize a.tmps.getD 9 undef = y9
          generalize a.tmps.getD 10 undef = y10
          generalize a.tmps.getD 11 undef = y11
          generalize a.tmps.getD 12 undef = y12
          generalize a.tmps.getD 13 undef = y13
          generalize a.tmps.getD 14 undef = y14
          generalize a.tmps.getD 15 undef = y15
          generalize a.tmps.getD 16 undef = y16
          generalize a.tmps.getD 17 undef = y17
          generalize a.tmps.getD 18 undef = y18
          generalize a.tmps.getD 19 undef = y19
          generalize a.tmps.getD 20 undef = y20
          generalize a.tmps.getD 21 undef = y21
          generalize a.tmps.getD 22 undef = y22
          generalize a.tmps.getD 23 undef = y23
          generalize a.tmps.getD 24 undef = y24
          generalize a.tmps.getD 25 undef = y25
          generalize a.tmps.getD 26 undef = y26
          generalize a.tmps.getD 27 undef = y27
          generalize a.tmps.getD 28 undef = y28
          generalize a.tmps.getD 29 undef = y29
          generalize a.tmps.getD 30 undef = y30
          generalize a.tmps.getD 31 undef = y31
          generalize a.tmps.getD 32 undef = y32
          generalize a.tmps.getD 33 undef = y33
          generalize a.tmps.getD 34 undef = y34
          generalize a.tmps.getD 35 undef = y35
          generalize a.tmps.getD 36 undef = y36
          generalize a.tmps.getD 37 undef = y37
          generalize a.tmps.getD 38 undef = y38
          generalize a.tmps.getD 39 undef = y39
          generalize a.tmps.getD 40 undef = y40
          generalize a.tmps.getD 41 undef = y41
          generalize a.tmps.getD 42 undef = y42
          generalize a.tmps.getD 43 undef = y43
          generalize a.tmps.getD 44 undef = y44
          generalize a.tmps.getD 45 undef = y45
          generalize a.tmps.getD 46 undef = y46
          generalize a.tmps.getD 47 undef = y47
          generalize a.tmps.getD 48 undef = y48
          generalize a.tmps.getD 49 undef = y49
          generalize a.tmps.getD 50 undef = y50
          generalize a.tmps.getD 51 undef = y51
          generalize a.tmps.getD 52 undef = y52
          generalize a.tmps.getD 53 undef = y53
          generalize a.tmps.getD 54 undef = y54
          generalize a.tmps.getD 55 undef = y55
          generalize a.tmps.getD 56 undef = y56
          generalize a.tmps.getD 57 undef = y57
          generalize a.tmps.getD 58 undef = y58
          generalize a.tmps.getD 59 undef = y59
          generalize a.tmps.getD 60 undef = y60
          generalize a.tmps.getD 61 undef = y61
          generalize a.tmps.getD 62 undef = y62
          generalize a.tmps.getD 63 undef = y63
          generalize a.tmps.getD 64 undef = y64
          generalize a.tmps.getD 65 undef = y65
          generalize a.tmps.getD 66 undef = y66
          generalize a.tmps.getD 67 undef = y67
          generalize a.tmps.getD 68 undef = y68
          generalize a.tmps.getD 69 undef = y69
          generalize a.tmps.getD 70 undef = y70
          generalize a.tmps.getD 71 undef = y71
          generalize a.tmps.getD 72 undef = y72
          generalize a.tmps.getD 73 undef = y73
          generalize a.tmps.getD 74 undef = y74
          generalize a.tmps.getD 75 undef = y75
          generalize a.tmps.getD 76 undef = y76
          generalize a.tmps.getD 77 undef = y77
          generalize a.tmps.getD 78 undef = y78
          generalize a.tmps.getD 79 undef = y79
          generalize a.tmps.getD 80 undef = y80
          generalize a.tmps.getD 81 undef = y81
          generalize a.tmps.getD 82 undef = y82
          generalize a.tmps.getD 83 undef = y83
          generalize a.tmps.getD 84 undef = y84
          generalize a.tmps.getD 85 undef = y85
          generalize a.tmps.getD 86 undef = y86
          have hbF := HS.out.ws.b
          go_wp2
          go_ret
          exact ⟨rfl, hbF⟩
      · have hE' : (E != 0) = true := by simpa using hE
        have hbF := HS.out.b
        clear hE
        go_wp2
        go_ret
        exact ⟨rfl, hbF⟩
end Go.Proofs.YtllcecnkbndokaaGreatDoor
