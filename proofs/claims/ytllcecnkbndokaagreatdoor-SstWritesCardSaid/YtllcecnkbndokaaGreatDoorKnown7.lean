/- What known's calls tell, at its own arguments: plainly, and by contracts. Condition: utf8.ValidString keeps its contract. -/
/- cashbooklaw7.known by its contract: it returns true. Condition: utf8.ValidString keeps its contract. -/
import Derived.Test.YtllcecnkbndokaaGreatDoorLaw0
import Derived.Test.YtllcecnkbndokaaGreatDoorBuild
import Derived.Test.YtllcecnkbndokaaGreatDoorPhase
import Derived.Test.YtllcecnkbndokaaGreatDoorLit
namespace Go.Proofs.YtllcecnkbndokaaGreatDoor
open Go.RowKit Go.Lib

/-- A table in a box; a record in a box. -/
structure KT (W : World) (g : Nat) (A : Option Addr) (c : Nat) (L : List (List UInt8)) (u : Int) : Prop where
  k : Bk W g 34 #[.slice A L.length c, .int .i64 u]
  r : Rd W W.heap.size 1 A L.length (L.map tv)
structure KR (W : World) (g : Nat) (R : RecM) (A : Option Addr) (c : Nat) (D : Option Addr) (d : Nat) : Prop where
  k : Bk W g 30 #[.int .i64 R.type, .slice A R.data.length c, .slice D R.cuts.length d, .int .i64 0]
  r : RecRd W W.heap.size R A c D d
  cs : CutS W W.heap.size D R.cuts.length R.cuts
section
variable {W W' : World} {g c d : Nat} {A D : Option Addr} {L : List (List UInt8)} {u : Int} {R : RecM}
theorem KT.below (h : KT W g A c L u) (hb : Below W.heap.size W W') : KT W' g A c L u := ⟨h.k.below hb h.k.lt, (h.r.belowMono hb (Nat.le_refl _)).mono hb.size⟩
theorem CutS.mono {w : World} {B B' n : Nat} {A : Option Addr} {cs : List Int} (h : CutS w B A n cs) (hB : B ≤ B') : CutS w B' A n cs := ⟨h.rd.mono hB, h.up, h.at_, h.few⟩
theorem KR.below (h : KR W g R A c D d) (hb : Below W.heap.size W W') : KR W' g R A c D d := ⟨h.k.below hb h.k.lt, (h.r.below hb).mono hb.size, (h.cs.belowMono hb (Nat.le_refl _)).mono hb.size⟩
end
theorem fresh_tv (w : World) (L : List (List UInt8)) : Rd (w.alloc (.cells (L.map tv).toArray 9)) (w.heap.size + 1) 1 (some ⟨w.heap.size, 0, none⟩) L.length (L.map tv) := Rd.fresh w 9 1 L.length (L.map tv) (by simp)

def kR : RecM := ⟨252, [3, 0, 0, 0, 2, 0, 0, 0, 1, 0, 0, 98, 1, 0, 0, 97], [], 0⟩
def kX : RecM := ⟨255, [8, 0, 8, 0, 0, 0], [], 0⟩
theorem k_enc : layE [[98], [97]] 3 = 0 ∧ encR [[98], [97]] 3 = kR ∧ encX [[98], [97]] 3 = kX ∧ encP [[98], [97]] 3 = [8, 12] := ⟨by decide +kernel, by kernel_rfl, by kernel_rfl, by decide +kernel⟩
theorem k_two : layE [[97], [97]] 2 = 7 := by decide +kernel
theorem k_tab : IsTab kR.data [] [[98], [97]] 3 := ⟨⟨[1, 0, 0, 98, 1, 0, 0, 97], by decide +kernel⟩, by decide, by decide, (fun x hx => by cases hx), .nil, by decide +kernel⟩
theorem k_same : sameM kX (encX [[98], [97]] 3) = true ∧ sameM ⟨255, [8, 0], [], 0⟩ (encX [[98], [97]] 3) = false := by rw [k_enc.2.2.1]; exact ⟨by decide +kernel, by decide +kernel⟩
theorem k_short : ∀ l ∈ ([[98], [97]] : List (List UInt8)), l.length ≤ 100000 := by decide
theorem k_short3 : ∀ l ∈ ([[98], [97], [98]] : List (List UInt8)), l.length ≤ 100000 := by decide
theorem k_short2 : ∀ l ∈ ([[97], [97]] : List (List UInt8)), l.length ≤ 100000 := by decide
theorem k_short1 : ∀ l ∈ ([[97]] : List (List UInt8)), l.length ≤ 100000 := by decide
theorem k_bld : ckT [[98], [97], [98]] = 0 ∧ bT [[98], [97], [98]] = [[98], [97]] ∧ bU [[98], [97], [98]] = 3 ∧ bA [[98], [97], [98]] = [0, 1, 0] := ⟨by decide +kernel, by decide +kernel, by decide +kernel, by decide +kernel⟩
theorem k_chk : ckTab [[97]] 0 = 1 := by decide +kernel

theorem kb1 {w : World} (HV : Val w) : Calls Tryz.prog 23 #[.slice (some ⟨w.heap.size, 0, none⟩) 3 3] (w.alloc (.cells #[.string ⟨#[98]⟩, .string ⟨#[97]⟩, .string ⟨#[98]⟩] 9)) fun e w' =>
    ∃ Ax cx Aa ca, e = .returned (.tuple #[.agg #[.slice Ax 2 cx, .int .i64 3], .slice Aa 3 ca, .int .i64 0]) ∧ Rd w' w'.heap.size 1 Ax 2 (([[98], [97]] : List (List UInt8)).map tv) ∧ Rd w' w'.heap.size 1 Aa 3 (([0, 1, 0] : List Nat).map nv) ∧ Below w.heap.size w w' := by
  have hW := bx1' w (.cells #[.string ⟨#[98]⟩, .string ⟨#[97]⟩, .string ⟨#[98]⟩] 9)
  have hr : Rd (w.alloc (.cells #[.string ⟨#[98]⟩, .string ⟨#[97]⟩, .string ⟨#[98]⟩] 9)) (w.heap.size + 1) 1 (some ⟨w.heap.size, 0, none⟩) 3 (([[98], [97], [98]] : List (List UInt8)).map tv) := fresh_tv w [[98], [97], [98]]
  refine (build_any (c := 3) (HV.below hW) hr (by simp) (by omega) k_short3).mono ?_
  obtain ⟨h1, h2, h3, h4⟩ := k_bld
  rw [h1, h2, h3, h4]
  rintro e w1 ⟨xv, av, rfl, o1, o2, hb⟩
  obtain ⟨Ax, cx, rfl, -, -, r1⟩ := own_form o1
  obtain ⟨Aa, ca, rfl, -, -, r2⟩ := own_form o2
  exact ⟨Ax, cx, Aa, ca, rfl, r1, r2, hW.trans (hb.mono hW.size)⟩
theorem ki1 {w : World} {A : Option Addr} {c : Nat} (g : Nat) (hg : w.heap.size = g) (h : Rd w w.heap.size 1 A 3 (([0, 1, 0] : List Nat).map nv)) : Calls Tryz.prog 17 #[.slice A 3 c, .slice (some ⟨g, 0, none⟩) 3 3] (w.alloc (.cells #[.int .i64 0, .int .i64 1, .int .i64 0] 3)) fun e w' => e = .returned (.bool true) ∧ Below w.heap.size w w' := by
  subst hg
  have hW := bx1' w (.cells #[.int .i64 0, .int .i64 1, .int .i64 0] 3)
  have hr : Rd (w.alloc (.cells #[.int .i64 0, .int .i64 1, .int .i64 0] 3)) (w.heap.size + 1) 1 (some ⟨w.heap.size, 0, none⟩) 3 (([0, 1, 0] : List Int).map iv) := Rd.fresh w 3 1 3 _ rfl
  have h2 : Rd (w.alloc (.cells #[.int .i64 0, .int .i64 1, .int .i64 0] 3)) (w.heap.size + 1) 1 A 3 (([0, 1, 0] : List Int).map iv) := (h.belowMono hW (Nat.le_refl _)).mono (Nat.le_succ _)
  refine (ints_any (c := c) (c' := 3) h2 hr (by omega) (by omega)).mono ?_
  rintro e w1 ⟨rfl, hb⟩
  exact ⟨by rw [decide_eq_true rfl], hW.trans (hb.mono hW.size)⟩
theorem ki2 {w : World} {A : Option Addr} {c : Nat} (g : Nat) (hg : w.heap.size = g) (h : Rd w w.heap.size 1 A 2 (([8, 12] : List Nat).map nv)) : Calls Tryz.prog 17 #[.slice A 2 c, .slice (some ⟨g, 0, none⟩) 2 2] (w.alloc (.cells #[.int .i64 8, .int .i64 12] 3)) fun e w' => e = .returned (.bool true) ∧ Below w.heap.size w w' := by
  subst hg
  have hW := bx1' w (.cells #[.int .i64 8, .int .i64 12] 3)
  have hr : Rd (w.alloc (.cells #[.int .i64 8, .int .i64 12] 3)) (w.heap.size + 1) 1 (some ⟨w.heap.size, 0, none⟩) 2 (([8, 12] : List Int).map iv) := Rd.fresh w 3 1 2 _ rfl
  have h2 : Rd (w.alloc (.cells #[.int .i64 8, .int .i64 12] 3)) (w.heap.size + 1) 1 A 2 (([8, 12] : List Int).map iv) := (h.belowMono hW (Nat.le_refl _)).mono (Nat.le_succ _)
  refine (ints_any (c := c) (c' := 2) h2 hr (by omega) (by omega)).mono ?_
  rintro e w1 ⟨rfl, hb⟩
  exact ⟨by rw [decide_eq_true rfl], hW.trans (hb.mono hW.size)⟩
theorem ke1 {w : World} {A : Option Addr} {c : Nat} (HV : Val w) (h : Rd w w.heap.size 1 A 2 (([[98], [97]] : List (List UInt8)).map tv)) : Calls Tryz.prog 7 #[.agg #[.slice A 2 c, .int .i64 3]] w fun e w' =>
    ∃ Ad cd Ac cc Xd xd Xc xc, e = .returned (.tuple #[.agg #[.int .i64 252, .slice Ad 16 cd, .slice Ac 0 cc, .int .i64 0], .agg #[.int .i64 255, .slice Xd 6 xd, .slice Xc 0 xc, .int .i64 0], .int .i64 0]) ∧ RecRd w' w'.heap.size kR Ad cd Ac cc ∧ CutS w' w'.heap.size Ac 0 [] ∧ RecRd w' w'.heap.size kX Xd xd Xc xc ∧ Below w.heap.size w w' := by
  refine (encode_any (c := c) (u := 3) HV h (Nat.le_refl _) (by omega) k_short).mono ?_
  obtain ⟨h1, h2, h3, h4⟩ := k_enc
  rw [h1, h2, h3]
  rintro e w1 ⟨dv, cv, xv, yv, rfl, o1, o2, o3, o4, hb⟩
  obtain ⟨Ad, cd, rfl, q1, -, r1⟩ := own_form o1
  obtain ⟨Ac, cc, rfl, q2, -, r2⟩ := own_form o2
  obtain ⟨Xd, xd, rfl, q3, -, r3⟩ := own_form o3
  obtain ⟨Xc, xc, rfl, q4, -, r4⟩ := own_form o4
  exact ⟨Ad, cd, Ac, cc, Xd, xd, Xc, xc, rfl, ⟨r1, r2, ⟨q1, by decide⟩, ⟨q2, by decide⟩, by unfold Fit; decide⟩, CutS.nil _ _ _, ⟨r3, r4, ⟨q3, by decide⟩, ⟨q4, by decide⟩, by unfold Fit; decide⟩, hb⟩
theorem ke2 {w : World} (HV : Val w) (g : Nat) (hg : w.heap.size = g) : Calls Tryz.prog 7 #[.agg #[.slice (some ⟨g, 0, none⟩) 2 2, .int .i64 2]] (w.alloc (.cells #[.string ⟨#[97]⟩, .string ⟨#[97]⟩] 9)) fun e w' =>
    ∃ Ad cd Ac cc Xd xd Xc xc, e = .returned (.tuple #[.agg #[.int .i64 0, .slice Ad 0 cd, .slice Ac 0 cc, .int .i64 0], .agg #[.int .i64 0, .slice Xd 0 xd, .slice Xc 0 xc, .int .i64 0], .int .i64 7]) ∧ Below w.heap.size w w' := by
  subst hg
  have hW := bx1' w (.cells #[.string ⟨#[97]⟩, .string ⟨#[97]⟩] 9)
  have hr : Rd (w.alloc (.cells #[.string ⟨#[97]⟩, .string ⟨#[97]⟩] 9)) (w.heap.size + 1) 1 (some ⟨w.heap.size, 0, none⟩) 2 (([[97], [97]] : List (List UInt8)).map tv) := fresh_tv w [[97], [97]]
  refine (encode_any (c := 2) (u := 2) (HV.below hW) hr (by simp) (by omega) k_short2).mono ?_
  have e1 : encR [[97], [97]] 2 = ⟨0, [], [], 0⟩ := by unfold encR; rw [k_two]; rfl
  have e2 : encX [[97], [97]] 2 = ⟨0, [], [], 0⟩ := by unfold encX; rw [k_two]; rfl
  rw [e1, e2, k_two]
  rintro e w1 ⟨dv, cv, xv, yv, rfl, o1, o2, o3, o4, hb⟩
  obtain ⟨Ad, cd, rfl, -⟩ := own_form o1
  obtain ⟨Ac, cc, rfl, -⟩ := own_form o2
  obtain ⟨Xd, xd, rfl, -⟩ := own_form o3
  obtain ⟨Xc, xc, rfl, -⟩ := own_form o4
  exact ⟨Ad, cd, Ac, cc, Xd, xd, Xc, xc, rfl, hW.trans (hb.mono hW.size)⟩
theorem kd1 {w : World} {A D XA XD : Option Addr} {c d xc xd : Nat} (HV : Val w) (h : RecRd w w.heap.size kR A c D d) (hC : CutS w w.heap.size D 0 []) (hX : RecRd w w.heap.size kX XA xc XD xd) : Calls Tryz.prog 14 #[.agg #[.int .i64 252, .slice A 16 c, .slice D 0 d, .int .i64 0], .agg #[.int .i64 255, .slice XA 6 xc, .slice XD 0 xd, .int .i64 0]] w fun e w' =>
    ∃ Au cu, e = .returned (.tuple #[.agg #[.slice Au 2 cu, .int .i64 3], .int .i64 0]) ∧ Rd w' w'.heap.size 1 Au 2 (([[98], [97]] : List (List UInt8)).map tv) ∧ Below w.heap.size w w' := by
  refine (decode_good (m := 0) (a1 := 0) (a2 := 0) HV h.data hC h.dcap.1 (by decide) (Nat.le_refl _) k_tab hX rfl rfl k_enc.1 k_short k_same.1).mono ?_
  rintro e w1 ⟨xv, rfl, o1, hb⟩
  obtain ⟨Au, cu, rfl, -, -, r1⟩ := own_form o1
  exact ⟨Au, cu, rfl, r1, hb⟩
theorem kd2 {w : World} {A D : Option Addr} {c d : Nat} (HV : Val w) (h : RecRd w w.heap.size kR A c D d) (hC : CutS w w.heap.size D 0 []) (g : Nat) (hg : w.heap.size = g) : Calls Tryz.prog 14 #[.agg #[.int .i64 252, .slice A 16 c, .slice D 0 d, .int .i64 0], .agg #[.int .i64 255, .slice (some ⟨g, 0, none⟩) 2 2, .slice none 0 0, .int .i64 0]] (w.alloc (.cells #[.int .u8 8, .int .u8 0] 5)) fun e w' =>
    e = .returned (.tuple #[.agg #[.slice none 0 0, .int .i64 0], .int .i64 2]) ∧ Below w.heap.size w w' := by
  subst hg
  have hW := bx1' w (.cells #[.int .u8 8, .int .u8 0] 5)
  have hr : Rd (w.alloc (.cells #[.int .u8 8, .int .u8 0] 5)) (w.heap.size + 1) 1 (some ⟨w.heap.size, 0, none⟩) 2 (([8, 0] : List UInt8).map bv) := Rd.fresh w 5 1 2 _ rfl
  refine (decode_unlike (B := w.heap.size + 1) (m := 0) (a1 := 0) (a2 := 0) (rx := ⟨255, [8, 0], [], 0⟩) (XD := none) (xd := 0) (xc := 2) (HV.below hW) ((h.data.belowMono hW (Nat.le_refl _)).mono (Nat.le_succ _)) (CutS.nil _ _ _) h.dcap.1 (by decide) (by simp) k_tab ⟨hr, Rd.nil _ _ _ _, ⟨by decide, by decide⟩, ⟨by decide, by decide⟩, by unfold Fit; decide⟩ rfl rfl k_enc.1 k_short k_same.2).mono ?_
  rintro e w1 ⟨rfl, hb⟩
  exact ⟨rfl, hW.trans (hb.mono hW.size)⟩
theorem kp1 {w : World} {A : Option Addr} {c : Nat} (HV : Val w) (h : Rd w w.heap.size 1 A 2 (([[98], [97]] : List (List UInt8)).map tv)) : Calls Tryz.prog 18 #[.agg #[.slice A 2 c, .int .i64 3]] w fun e w' => ∃ Ap cp, e = .returned (.slice Ap 2 cp) ∧ Rd w' w'.heap.size 1 Ap 2 (([8, 12] : List Nat).map nv) ∧ Below w.heap.size w w' := by
  refine (places_any (c := c) (u := 3) HV h (Nat.le_refl _) (by omega) k_short).mono ?_
  rw [k_enc.2.2.2]
  rintro e w1 ⟨pv, rfl, o1, hb⟩
  obtain ⟨Ap, cp, rfl, -, -, r1⟩ := own_form o1
  exact ⟨Ap, cp, rfl, r1, hb⟩
theorem kc1 {w : World} (HV : Val w) (g : Nat) (hg : w.heap.size = g) : Calls Tryz.prog 12 #[.agg #[.slice (some ⟨g, 0, none⟩) 1 1, .int .i64 0]] (w.alloc (.cells #[.string ⟨#[97]⟩] 9)) fun e w' => e = .returned (.int .i64 1) ∧ Below w.heap.size w w' := by
  subst hg
  have hW := bx1' w (.cells #[.string ⟨#[97]⟩] 9)
  have hr : Rd (w.alloc (.cells #[.string ⟨#[97]⟩] 9)) (w.heap.size + 1) 1 (some ⟨w.heap.size, 0, none⟩) 1 (([[97]] : List (List UInt8)).map tv) := fresh_tv w [[97]]
  refine (checkTab_any (c := 1) (u := 0) (HV.below hW) hr (by simp) (by omega) k_short1).mono ?_
  rw [k_chk]
  rintro e w1 ⟨rfl, hb⟩
  exact ⟨rfl, hW.trans (hb.mono hW.size)⟩
theorem ks1 {w : World} {A A' : Option Addr} {c c' : Nat} (h : Rd w w.heap.size 1 A 2 (([[98], [97]] : List (List UInt8)).map tv)) (h' : Rd w w.heap.size 1 A' 2 (([[98], [97]] : List (List UInt8)).map tv)) : Calls Tryz.prog 15 #[.agg #[.slice A 2 c, .int .i64 3], .agg #[.slice A' 2 c', .int .i64 3]] w fun e w' => e = .returned (.bool true) ∧ Below w.heap.size w w' := by
  refine (sameTab_any (c := c) (c' := c') (u := 3) (u' := 3) h h' (Nat.le_refl _) (by omega) (by omega)).mono ?_
  rintro e w1 ⟨rfl, hb⟩
  exact ⟨by simp, hb⟩
end Go.Proofs.YtllcecnkbndokaaGreatDoor
namespace Go.Proofs.YtllcecnkbndokaaGreatDoor
open Go.RowKit Go.Lib

/-- What is held: both tables, both records. -/
structure KS (w W : World) (g1 g4 g5 g7 : Nat) (Ax : Option Addr) (cx : Nat) (Ad : Option Addr) (cd : Nat) (Ac : Option Addr) (cc : Nat) (Xd : Option Addr) (xd : Nat) (Xc : Option Addr) (xc : Nat) (Au : Option Addr) (cu : Nat) : Prop where
  t : KT W g1 Ax cx [[98], [97]] 3
  r : KR W g4 kR Ad cd Ac cc
  x : KR W g5 kX Xd xd Xc xc
  u : KT W g7 Au cu [[98], [97]] 3
  v : Val W
  b : Below w.heap.size w W
section
variable {w W W' : World} {g1 g4 g5 g7 cx cd cc xd xc cu : Nat} {Ax Ad Ac Xd Xc Au : Option Addr}
theorem KS.below (h : KS w W g1 g4 g5 g7 Ax cx Ad cd Ac cc Xd xd Xc xc Au cu) (hb : Below W.heap.size W W') : KS w W' g1 g4 g5 g7 Ax cx Ad cd Ac cc Xd xd Xc xc Au cu := ⟨h.t.below hb, h.r.below hb, h.x.below hb, h.u.below hb, h.v.below hb, h.b.trans (hb.mono h.b.size)⟩
theorem KS.drew (h : KS w W g1 g4 g5 g7 Ax cx Ad cd Ac cc Xd xd Xc xc Au cu) : KS w W.drew g1 g4 g5 g7 Ax cx Ad cd Ac cc Xd xd Xc xc Au cu := h.below ((Below.refl _ _).drew)
end
/-- A slice, a struct of one, that reads so. -/
def KF (f : Option Addr → Nat → World → Prop) (v : Value) (W : World) : Prop := ∃ A n c, v = .slice A n c ∧ f A n W
theorem kf_stable {f : Option Addr → Nat → World → Prop} (h : ∀ A n W W', Below W.heap.size W W' → f A n W → f A n W') : Stable (fun W W' => Below W.heap.size W W') (KF f) := fun v W W' hb ⟨A, n, c, hv, hf⟩ => ⟨A, n, c, hv, h A n W W' hb hf⟩
def KA (f : Option Addr → World → Prop) (v : Value) (W : World) : Prop := ∃ A c, v = .agg #[.slice A 1 c, .int .i64 0] ∧ f A W
theorem ka_stable {f : Option Addr → World → Prop} (h : ∀ A W W', Below W.heap.size W W' → f A W → f A W') : Stable (fun W W' => Below W.heap.size W W') (KA f) := fun v W W' hb ⟨A, c, hv, hf⟩ => ⟨A, c, hv, h A W W' hb hf⟩

set_option maxHeartbeats 16000000 in
set_option maxRecDepth 100000 in
theorem known_any {w : World} (HV : Val w) :
    Calls Tryz.prog 5 #[] w fun e w' => e = .returned (.bool true) ∧ Below w.heap.size w w' := by
  have H1 := Lib.hid (kb1 HV)
  have HVV := Lib.hid HV
  clear HV
  go_enter Tryz.func5, Tryz.ntmps5
  go_wp2_with fail
  refine H1.out.mono ?_
  rintro e w1 ⟨Ax, cx, Aa, ca, rfl, rx, ra, hb1⟩
  clear H1
  have hW := bx1' w1 (.cells #[.slice Ax 2 cx, .int .i64 3] 34)
  have t1 : KT (w1.alloc (.cells #[.slice Ax 2 cx, .int .i64 3] 34)) w1.heap.size Ax cx [[98], [97]] 3 := ⟨Bk.new _ _ _, (rx.belowMono hW (Nat.le_refl _)).mono hW.size⟩
  have ra1 := (ra.belowMono hW (Nat.le_refl _)).mono hW.size
  have hb2 := hb1.trans (hW.mono hb1.size)
  have hz1 : (w1.alloc (.cells #[.slice Ax 2 cx, .int .i64 3] 34)).heap.size = w1.heap.size + 1 := by simp
  have c10 := t1.k.cell 0
  clear rx ra hW hb1
  go_wp2_with fail
  generalize hWW : w1.alloc (.cells #[.slice Ax 2 cx, .int .i64 3] 34) = w2 at *
  clear hWW
  refine (ki1 (w1.heap.size + 1) hz1 ra1).mono ?_
  rintro e w3 ⟨rfl, b3⟩
  have t3 := t1.below b3
  have hb3 := hb2.trans (b3.mono hb2.size)
  have d10 := t3.k.cell 0
  have d11 := t3.k.cell 1
  generalize w1.heap.size = g1 at *
  clear t1 hb2 hz1 ra1 c10 b3
  go_wp2_with fail
  refine (ke1 (HVV.out.below hb3) t3.r).mono ?_
  rintro e w4 ⟨Ad, cd, Ac, cc, Xd, xd, Xc, xc, rfl, r4, s4, x4, b4⟩
  have t4 := t3.below b4
  have hb4 := hb3.trans (b4.mono hb3.size)
  clear t3 hb3 d10 d11 b4
  have hW4 := bx1' w4 (.cells #[.int .i64 252, .slice Ad 16 cd, .slice Ac 0 cc, .int .i64 0] 30)
  have hW4' := bx1' (w4.alloc (.cells #[.int .i64 252, .slice Ad 16 cd, .slice Ac 0 cc, .int .i64 0] 30)) (.cells #[.int .i64 255, .slice Xd 6 xd, .slice Xc 0 xc, .int .i64 0] 30)
  have hW5 := hW4.trans (hW4'.mono hW4.size)
  have t5 := t4.below hW5
  have r5 : KR ((w4.alloc (.cells #[.int .i64 252, .slice Ad 16 cd, .slice Ac 0 cc, .int .i64 0] 30)).alloc (.cells #[.int .i64 255, .slice Xd 6 xd, .slice Xc 0 xc, .int .i64 0] 30)) w4.heap.size kR Ad cd Ac cc := ⟨(Bk.new w4 _ _).alloc _, (r4.below hW5).mono hW5.size, (s4.belowMono hW5 (Nat.le_refl _)).mono hW5.size⟩
  have x5 : KR ((w4.alloc (.cells #[.int .i64 252, .slice Ad 16 cd, .slice Ac 0 cc, .int .i64 0] 30)).alloc (.cells #[.int .i64 255, .slice Xd 6 xd, .slice Xc 0 xc, .int .i64 0] 30)) (w4.heap.size + 1) kX Xd xd Xc xc := ⟨by have := Bk.new (w4.alloc (.cells #[.int .i64 252, .slice Ad 16 cd, .slice Ac 0 cc, .int .i64 0] 30)) 30 #[.int .i64 255, .slice Xd 6 xd, .slice Xc 0 xc, .int .i64 0]; rwa [show (w4.alloc (.cells #[.int .i64 252, .slice Ad 16 cd, .slice Ac 0 cc, .int .i64 0] 30)).heap.size = w4.heap.size + 1 by simp] at this, (x4.below hW5).mono hW5.size, CutS.nil _ _ _⟩
  have hb5 := hb4.trans (hW5.mono hb4.size)
  clear hW4 hW4' hW5 t4 r4 s4 x4 hb4
  go_wp2_with fail
  generalize hWW : (w4.alloc (.cells #[.int .i64 252, .slice Ad 16 cd, .slice Ac 0 cc, .int .i64 0] 30)).alloc (.cells #[.int .i64 255, .slice Xd 6 xd, .slice Xc 0 xc, .int .i64 0] 30) = w5 at *
  clear hWW
  generalize w4.heap.size = g4 at *
  generalize hg5 : g4 + 1 = g5 at *
  clear hg5
  refine (kd1 (HVV.out.below hb5) r5.r r5.cs x5.r).mono ?_
  rintro e w6 ⟨Au, cu, rfl, ru, b6⟩
  have t6 := t5.below b6
  have r6 := r5.below b6
  have x6 := x5.below b6
  have hb6 := hb5.trans (b6.mono hb5.size)
  clear t5 r5 x5 hb5 b6
  have hW6 := bx1' w6 (.cells #[.slice Au 2 cu, .int .i64 3] 34)
  have u7 : KT (w6.alloc (.cells #[.slice Au 2 cu, .int .i64 3] 34)) w6.heap.size Au cu [[98], [97]] 3 := ⟨Bk.new _ _ _, (ru.belowMono hW6 (Nat.le_refl _)).mono hW6.size⟩
  have t7 := t6.below hW6
  have r7 := r6.below hW6
  have x7 := x6.below hW6
  have hb7 := hb6.trans (hW6.mono hb6.size)
  have hz7 : (w6.alloc (.cells #[.slice Au 2 cu, .int .i64 3] 34)).heap.size = w6.heap.size + 1 := by simp
  clear t6 r6 x6 hb6 ru hW6
  go_wp2_with fail
  generalize hWW : w6.alloc (.cells #[.slice Au 2 cu, .int .i64 3] 34) = w7 at *
  clear hWW
  refine (ke2 (HVV.out.below hb7) (w6.heap.size + 1) hz7).mono ?_
  rintro e w8 ⟨B1, d1, B2, d2, B3, d3, B4, d4, rfl, b8⟩
  generalize w6.heap.size = g7 at *
  have hW8 := bx1' w8 (.cells #[.int .i64 0, .slice B1 0 d1, .slice B2 0 d2, .int .i64 0] 30)
  have hW8' := hW8.trans ((bx1' (w8.alloc (.cells #[.int .i64 0, .slice B1 0 d1, .slice B2 0 d2, .int .i64 0] 30)) (.cells #[.int .i64 0, .slice B3 0 d3, .slice B4 0 d4, .int .i64 0] 30)).mono hW8.size)
  have b9 := b8.trans (hW8'.mono b8.size)
  have t9 := t7.below b9
  have r9 := r7.below b9
  have x9 := x7.below b9
  have u9 := u7.below b9
  have hb9 := hb7.trans (b9.mono hb7.size)
  have hz9 : ((w8.alloc (.cells #[.int .i64 0, .slice B1 0 d1, .slice B2 0 d2, .int .i64 0] 30)).alloc (.cells #[.int .i64 0, .slice B3 0 d3, .slice B4 0 d4, .int .i64 0] 30)).heap.size = w8.heap.size + 1 + 1 := by simp
  have f0 : ((w8.alloc (.cells #[.int .i64 0, .slice B1 0 d1, .slice B2 0 d2, .int .i64 0] 30)).alloc (.cells #[.int .i64 0, .slice B3 0 d3, .slice B4 0 d4, .int .i64 0] 30)).cell? ⟨g4, 0, none⟩ = some (.int .i64 252) := r9.k.cell 0
  have f1 : ((w8.alloc (.cells #[.int .i64 0, .slice B1 0 d1, .slice B2 0 d2, .int .i64 0] 30)).alloc (.cells #[.int .i64 0, .slice B3 0 d3, .slice B4 0 d4, .int .i64 0] 30)).cell? ⟨g4, 1, none⟩ = some (.slice Ad 16 cd) := r9.k.cell 1
  have f2 : ((w8.alloc (.cells #[.int .i64 0, .slice B1 0 d1, .slice B2 0 d2, .int .i64 0] 30)).alloc (.cells #[.int .i64 0, .slice B3 0 d3, .slice B4 0 d4, .int .i64 0] 30)).cell? ⟨g4, 2, none⟩ = some (.slice Ac 0 cc) := r9.k.cell 2
  have f3 : ((w8.alloc (.cells #[.int .i64 0, .slice B1 0 d1, .slice B2 0 d2, .int .i64 0] 30)).alloc (.cells #[.int .i64 0, .slice B3 0 d3, .slice B4 0 d4, .int .i64 0] 30)).cell? ⟨g4, 3, none⟩ = some (.int .i64 0) := r9.k.cell 3
  clear hW8 hW8' b9 b8 t7 r7 x7 u7 hb7 hz7
  go_wp2_with fail
  generalize hWW : (w8.alloc (.cells #[.int .i64 0, .slice B1 0 d1, .slice B2 0 d2, .int .i64 0] 30)).alloc (.cells #[.int .i64 0, .slice B3 0 d3, .slice B4 0 d4, .int .i64 0] 30) = w9 at *
  clear hWW
  refine (kd2 (HVV.out.below hb9) r9.r r9.cs (w8.heap.size + 1 + 1) hz9).mono ?_
  rintro e w10 ⟨rfl, b10⟩
  have hW10 := bx1' w10 (.cells #[.slice none 0 0, .int .i64 0] 34)
  have b11 := b10.trans (hW10.mono b10.size)
  have t11 := t9.below b11
  have r11 := r9.below b11
  have x11 := x9.below b11
  have u11 := u9.below b11
  have hb11 := hb9.trans (b11.mono hb9.size)
  have f0 : (w10.alloc (.cells #[.slice none 0 0, .int .i64 0] 34)).cell? ⟨g4, 0, none⟩ = some (.int .i64 252) := r11.k.cell 0
  have f1 : (w10.alloc (.cells #[.slice none 0 0, .int .i64 0] 34)).cell? ⟨g4, 1, none⟩ = some (.slice Ad 16 cd) := r11.k.cell 1
  have f2 : (w10.alloc (.cells #[.slice none 0 0, .int .i64 0] 34)).cell? ⟨g4, 2, none⟩ = some (.slice Ac 0 cc) := r11.k.cell 2
  have f3 : (w10.alloc (.cells #[.slice none 0 0, .int .i64 0] 34)).cell? ⟨g4, 3, none⟩ = some (.int .i64 0) := r11.k.cell 3
  have e0 : (w10.alloc (.cells #[.slice none 0 0, .int .i64 0] 34)).cell? ⟨g5, 0, none⟩ = some (.int .i64 255) := x11.k.cell 0
  have e1 : (w10.alloc (.cells #[.slice none 0 0, .int .i64 0] 34)).cell? ⟨g5, 1, none⟩ = some (.slice Xd 6 xd) := x11.k.cell 1
  have e2 : (w10.alloc (.cells #[.slice none 0 0, .int .i64 0] 34)).cell? ⟨g5, 2, none⟩ = some (.slice Xc 0 xc) := x11.k.cell 2
  have e3 : (w10.alloc (.cells #[.slice none 0 0, .int .i64 0] 34)).cell? ⟨g5, 3, none⟩ = some (.int .i64 0) := x11.k.cell 3
  clear hW10 b10 b11 t9 r9 x9 u9 hb9 hz9
  generalize w8.heap.size = g8 at *
  go_wp2_with fail
  generalize hWW : w10.alloc (.cells #[.slice none 0 0, .int .i64 0] 34) = w11 at *
  clear hWW
  refine (decode_other (ty := 255) (by decide)).mono ?_
  rintro e w12 ⟨rfl, b12⟩
  have hW12 := bx1' w12 (.cells #[.slice none 0 0, .int .i64 0] 34)
  have b13 := b12.trans (hW12.mono b12.size)
  have HKS := Lib.hid (show KS w (w12.alloc (.cells #[.slice none 0 0, .int .i64 0] 34)) g1 g4 g5 g7 Ax cx Ad cd Ac cc Xd xd Xc xc Au cu from ⟨t11.below b13, r11.below b13, x11.below b13, u11.below b13, HVV.out.below (hb11.trans (b13.mono hb11.size)), hb11.trans (b13.mono hb11.size)⟩)
  clear hW12 b12 b13 t11 r11 x11 u11 hb11 f0 f1 f2 f3 e0 e1 e2 e3
  go_wp2_with fail
  generalize hWW : w12.alloc (.cells #[.slice none 0 0, .int .i64 0] 34) = w13 at *
  clear hWW
  try simp only [List.append]
  refine wp_region_phases (S := (fun _ W => KS w W g1 g4 g5 g7 Ax cx Ad cd Ac cc Xd xd Xc xc Au cu)) (E := (fun W W' => Below W.heap.size W W')) [] [(1, Is (.pointer (some ⟨g1, 0, none⟩))), (4, Is (.pointer (some ⟨g4, 0, none⟩))), (5, Is (.pointer (some ⟨g5, 0, none⟩))), (6, Is (.int .i64 0)), (7, Is (.pointer (some ⟨g7, 0, none⟩))), (8, Is (.int .i64 0)), (11, Is (.int .i64 7)), (13, Is (.int .i64 2)), (15, Is (.int .i64 1))] [(68, Is (.pointer (some ⟨g1, 1, none⟩))), (69, Is (.int .i64 3)), (70, Is (.bool true)), (71, Is (.bool true)), (72, Is (.int .i64 0)), (73, Is (.int .i64 0)), (74, Is (.int .i64 0)), (75, Is (.bool true)), (76, Is (.bool true)), (77, Is (.bool true)), (78, Is (.pointer (some ⟨g4, 1, none⟩))), (79, Is (.slice Ad 16 cd)), (80, Is (.string ⟨#[3, 0, 0, 0, 2, 0, 0, 0, 1, 0, 0, 98, 1, 0, 0, 97]⟩)), (81, Is (.bool true)), (82, Is (.bool true)), (83, Is (.bool true)), (84, Is (.pointer (some ⟨g5, 1, none⟩))), (85, Is (.slice Xd 6 xd)), (86, Is (.string ⟨#[8, 0, 8, 0, 0, 0]⟩)), (87, Is (.bool true)), (88, Is (.bool true)), (89, Is (.bool true)), (90, Is (.pointer (some ⟨g4, 0, none⟩))), (91, Is (.int .i64 252)), (92, Is (.bool true)), (93, Is (.bool true)), (94, Is (.bool true)), (95, Is (.agg #[.slice Au 2 cu, .int .i64 3])), (96, Is (.agg #[.slice Au 2 cu, .int .i64 3])), (97, Is (.agg #[.slice Ax 2 cx, .int .i64 3])), (98, Is (.agg #[.slice Ax 2 cx, .int .i64 3])), (99, Is (.bool true)), (100, Is (.bool true)), (101, Is (.bool true)), (102, Is (.int .i64 7)), (103, Is (.bool true)), (104, Is (.bool true)), (105, Is (.bool true)), (106, Is (.int .i64 2)), (107, Is (.bool true)), (108, Is (.bool true)), (109, Is (.bool true)), (110, Is (.int .i64 1)), (111, Is (.bool true)), (112, Is (.bool true)), (113, Is (.bool true)), (114, Is (.agg #[.slice Ax 2 cx, .int .i64 3])), (115, KF (fun A n W => n = 2 ∧ Rd W W.heap.size 1 A 2 (([8, 12] : List Nat).map nv))), (116, KF (fun A n W => n = 2 ∧ Rd W W.heap.size 1 A 2 (([8, 12] : List Int).map iv))), (117, Is (.bool true)), (118, Is (.bool true)), (119, Is (.bool true)), (120, KF (fun A n W => n = 1 ∧ Rd W W.heap.size 1 A 1 (([[97]] : List (List UInt8)).map tv))), (121, KA (fun A W => Rd W W.heap.size 1 A 1 (([[97]] : List (List UInt8)).map tv))), (122, Is (.int .i64 1)), (123, Is (.bool true)), (124, Is (.bool true)), (0, Is (.bool true))]
    [.op [1] none, .op [68] none, .op [69] none, .op [70] none, .op [6, 71] (some (71, true)), .op [8, 71] (some (71, true)), .op [72, 73, 71] (some (71, true)), .op [74, 71] (some (71, true)), .op [71, 75] none, .op [76] none, .op [4, 77] (some (77, true)), .op [78, 77] (some (77, true)), .op [79, 77] (some (77, true)), .op [80, 77] (some (77, true)), .op [77, 81] none, .op [82] none, .op [5, 83] (some (83, true)), .op [84, 83] (some (83, true)), .op [85, 83] (some (83, true)), .op [86, 83] (some (83, true)), .op [83, 87] none, .op [88] none, .op [4, 89] (some (89, true)), .op [90, 89] (some (89, true)), .op [91, 89] (some (89, true)), .op [89, 92] none, .op [93] none, .op [7, 94] (some (94, true)), .op [95, 94] (some (94, true)), .op [1, 94] (some (94, true)), .op [97, 94] (some (94, true)), .op [96, 98, 94] (some (94, true)), .op [94, 99] none, .op [100] none, .op [11, 101] (some (101, true)), .op [102, 101] (some (101, true)), .op [101, 103] none, .op [104] none, .op [13, 105] (some (105, true)), .op [106, 105] (some (105, true)), .op [105, 107] none, .op [108] none, .op [15, 109] (some (109, true)), .op [110, 109] (some (109, true)), .op [109, 111] none, .op [112] none, .op [1, 113] (some (113, true)), .op [114, 113] (some (113, true)), .op [113] (some (113, true)), .op [115, 116, 113] (some (113, true)), .op [113, 117] none, .op [118] none, .op [119] (some (119, true)), .op [120, 119] (some (119, true)), .op [121, 119] (some (119, true)), .op [122, 119] (some (119, true)), .op [119, 123] none, .op [124] none] (by as_aux_lemma => kernel_rfl) ?_ ?_ ?_ ?_ ?_ ⟨stable_is _ _, stable_is _ _, stable_is _ _, stable_is _ _, stable_is _ _, stable_is _ _, stable_is _ _, stable_is _ _, stable_is _ _, stable_is _ _, stable_is _ _, stable_is _ _, stable_is _ _, stable_is _ _, stable_is _ _, stable_is _ _, stable_is _ _, stable_is _ _, stable_is _ _, stable_is _ _, stable_is _ _, stable_is _ _, stable_is _ _, stable_is _ _, stable_is _ _, stable_is _ _, stable_is _ _, stable_is _ _, stable_is _ _, stable_is _ _, stable_is _ _, stable_is _ _, stable_is _ _, stable_is _ _, stable_is _ _, stable_is _ _, stable_is _ _, stable_is _ _, stable_is _ _, stable_is _ _, stable_is _ _, stable_is _ _, stable_is _ _, stable_is _ _, stable_is _ _, stable_is _ _, stable_is _ _, stable_is _ _, stable_is _ _, stable_is _ _, stable_is _ _, stable_is _ _, stable_is _ _, stable_is _ _, stable_is _ _, stable_is _ _, kf_stable fun A n W W' hb h => ⟨h.1, (h.2.belowMono hb (Nat.le_refl _)).mono hb.size⟩, kf_stable fun A n W W' hb h => ⟨h.1, (h.2.belowMono hb (Nat.le_refl _)).mono hb.size⟩, stable_is _ _, stable_is _ _, stable_is _ _, kf_stable fun A n W W' hb h => ⟨h.1, (h.2.belowMono hb (Nat.le_refl _)).mono hb.size⟩, ka_stable fun A W W' hb h => (h.belowMono hb (Nat.le_refl _)).mono hb.size, stable_is _ _, stable_is _ _, stable_is _ _, stable_is _ _, trivial⟩ ?_ HKS.out.drew ?_ ?_
  · as_aux_lemma => kernel_rfl
  · as_aux_lemma => kernel_rfl
  · as_aux_lemma => kernel_rfl
  · as_aux_lemma => kernel_rfl
  · as_aux_lemma => kernel_rfl
  · exact ⟨rfl, rfl, rfl, rfl, rfl, rfl, rfl, rfl, rfl, trivial⟩
  · refine ⟨?_, ?_, ?_, ?_, ?_, ?_, ?_, ?_, ?_, ?_, ?_, ?_, ?_, ?_, ?_, ?_, ?_, ?_, ?_, ?_, ?_, ?_, ?_, ?_, ?_, ?_, ?_, ?_, ?_, ?_, ?_, ?_, ?_, ?_, ?_, ?_, ?_, ?_, ?_, ?_, ?_, ?_, ?_, ?_, ?_, ?_, ?_, ?_, ?_, ?_, ?_, ?_, ?_, ?_, ?_, ?_, ?_, ?_, trivial⟩
    · as_aux_lemma =>
        intro vals a W hS hL
        have e1 : a.tmps.getD 1 undef = .pointer (some ⟨g1, 0, none⟩) := hL.1
        clear hL
        go_simp
        exact ⟨⟨fun d hd => by injection hd with hd; subst hd; rfl, fun h => by cases h⟩, hS, Below.refl _ _⟩
    · as_aux_lemma =>
        intro vals a W hS hL
        have e68 : a.tmps.getD 68 undef = .pointer (some ⟨g1, 1, none⟩) := hL.1
        clear hL
        have kb : Bk W g1 34 #[.slice Ax 2 cx, .int .i64 3] := hS.t.k
        have f1 := kb.cell 1
        clear kb
        go_simp
        exact ⟨⟨fun d hd => by injection hd with hd; subst hd; rfl, fun h => by cases h⟩, hS, Below.refl _ _⟩
    · as_aux_lemma =>
        intro vals a W hS hL
        have e69 : a.tmps.getD 69 undef = .int .i64 3 := hL.1
        clear hL
        go_simp
        exact ⟨⟨fun d hd => by injection hd with hd; subst hd; rfl, fun h => by cases h⟩, hS, Below.refl _ _⟩
    · as_aux_lemma =>
        intro vals a W hS hL
        have e70 : a.tmps.getD 70 undef = .bool true := hL.1
        clear hL
        go_simp
        exact ⟨⟨fun d hd => by injection hd with hd; subst hd; rfl, fun h => by cases h⟩, hS, Below.refl _ _⟩
    · as_aux_lemma =>
        intro vals a W hS hL
        have e6 : a.tmps.getD 6 undef = .int .i64 0 := hL.1
        have e71 : a.tmps.getD 71 undef = .bool true := hL.2.1
        clear hL
        refine ⟨true, e71, ?_⟩
        rw [if_pos rfl]
        go_simp
        exact ⟨⟨fun d hd => by injection hd with hd; subst hd; rfl, fun h => by cases h⟩, hS, Below.refl _ _⟩
    · as_aux_lemma =>
        intro vals a W hS hL
        have e8 : a.tmps.getD 8 undef = .int .i64 0 := hL.1
        have e71 : a.tmps.getD 71 undef = .bool true := hL.2.1
        clear hL
        refine ⟨true, e71, ?_⟩
        rw [if_pos rfl]
        go_simp
        exact ⟨⟨fun d hd => by injection hd with hd; subst hd; rfl, fun h => by cases h⟩, hS, Below.refl _ _⟩
    · as_aux_lemma =>
        intro vals a W hS hL
        have e72 : a.tmps.getD 72 undef = .int .i64 0 := hL.1
        have e73 : a.tmps.getD 73 undef = .int .i64 0 := hL.2.1
        have e71 : a.tmps.getD 71 undef = .bool true := hL.2.2.1
        clear hL
        refine ⟨true, e71, ?_⟩
        rw [if_pos rfl]
        go_simp
        exact ⟨⟨fun d hd => by injection hd with hd; subst hd; rfl, fun h => by cases h⟩, hS, Below.refl _ _⟩
    · as_aux_lemma =>
        intro vals a W hS hL
        have e74 : a.tmps.getD 74 undef = .int .i64 0 := hL.1
        have e71 : a.tmps.getD 71 undef = .bool true := hL.2.1
        clear hL
        refine ⟨true, e71, ?_⟩
        rw [if_pos rfl]
        go_simp
        exact ⟨⟨fun d hd => by injection hd with hd; subst hd; rfl, fun h => by cases h⟩, hS, Below.refl _ _⟩
    · as_aux_lemma =>
        intro vals a W hS hL
        have e71 : a.tmps.getD 71 undef = .bool true := hL.1
        have e75 : a.tmps.getD 75 undef = .bool true := hL.2.1
        clear hL
        go_simp
        exact ⟨⟨fun d hd => by injection hd with hd; subst hd; rfl, fun h => by cases h⟩, hS, Below.refl _ _⟩
    · as_aux_lemma =>
        intro vals a W hS hL
        have e76 : a.tmps.getD 76 undef = .bool true := hL.1
        clear hL
        go_simp
        exact ⟨⟨fun d hd => by injection hd with hd; subst hd; rfl, fun h => by cases h⟩, hS, Below.refl _ _⟩
    · as_aux_lemma =>
        intro vals a W hS hL
        have e4 : a.tmps.getD 4 undef = .pointer (some ⟨g4, 0, none⟩) := hL.1
        have e77 : a.tmps.getD 77 undef = .bool true := hL.2.1
        clear hL
        refine ⟨true, e77, ?_⟩
        rw [if_pos rfl]
        go_simp
        exact ⟨⟨fun d hd => by injection hd with hd; subst hd; rfl, fun h => by cases h⟩, hS, Below.refl _ _⟩
    · as_aux_lemma =>
        intro vals a W hS hL
        have e78 : a.tmps.getD 78 undef = .pointer (some ⟨g4, 1, none⟩) := hL.1
        have e77 : a.tmps.getD 77 undef = .bool true := hL.2.1
        clear hL
        refine ⟨true, e77, ?_⟩
        rw [if_pos rfl]
        have kb : Bk W g4 30 #[.int .i64 252, .slice Ad 16 cd, .slice Ac 0 cc, .int .i64 0] := hS.r.k
        have f1 := kb.cell 1
        clear kb
        go_simp
        exact ⟨⟨fun d hd => by injection hd with hd; subst hd; rfl, fun h => by cases h⟩, hS, Below.refl _ _⟩
    · as_aux_lemma =>
        intro vals a W hS hL
        have e79 : a.tmps.getD 79 undef = .slice Ad 16 cd := hL.1
        have e77 : a.tmps.getD 77 undef = .bool true := hL.2.1
        clear hL
        refine ⟨true, e77, ?_⟩
        rw [if_pos rfl]
        have hs := run_str (c := cd) hS.r.r.data
        rw [show strOf kR.data = ⟨#[3, 0, 0, 0, 2, 0, 0, 0, 1, 0, 0, 98, 1, 0, 0, 97]⟩ from rfl, show kR.data.length = 16 from rfl] at hs
        go_simp
        exact ⟨⟨fun d hd => by injection hd with hd; subst hd; rfl, fun h => by cases h⟩, hS, Below.refl _ _⟩
    · as_aux_lemma =>
        intro vals a W hS hL
        have e80 : a.tmps.getD 80 undef = .string ⟨#[3, 0, 0, 0, 2, 0, 0, 0, 1, 0, 0, 98, 1, 0, 0, 97]⟩ := hL.1
        have e77 : a.tmps.getD 77 undef = .bool true := hL.2.1
        clear hL
        refine ⟨true, e77, ?_⟩
        rw [if_pos rfl]
        go_simp
        exact ⟨⟨fun d hd => by injection hd with hd; subst hd; rfl, fun h => by cases h⟩, hS, Below.refl _ _⟩
    · as_aux_lemma =>
        intro vals a W hS hL
        have e77 : a.tmps.getD 77 undef = .bool true := hL.1
        have e81 : a.tmps.getD 81 undef = .bool true := hL.2.1
        clear hL
        go_simp
        exact ⟨⟨fun d hd => by injection hd with hd; subst hd; rfl, fun h => by cases h⟩, hS, Below.refl _ _⟩
    · as_aux_lemma =>
        intro vals a W hS hL
        have e82 : a.tmps.getD 82 undef = .bool true := hL.1
        clear hL
        go_simp
        exact ⟨⟨fun d hd => by injection hd with hd; subst hd; rfl, fun h => by cases h⟩, hS, Below.refl _ _⟩
    · as_aux_lemma =>
        intro vals a W hS hL
        have e5 : a.tmps.getD 5 undef = .pointer (some ⟨g5, 0, none⟩) := hL.1
        have e83 : a.tmps.getD 83 undef = .bool true := hL.2.1
        clear hL
        refine ⟨true, e83, ?_⟩
        rw [if_pos rfl]
        go_simp
        exact ⟨⟨fun d hd => by injection hd with hd; subst hd; rfl, fun h => by cases h⟩, hS, Below.refl _ _⟩
    · as_aux_lemma =>
        intro vals a W hS hL
        have e84 : a.tmps.getD 84 undef = .pointer (some ⟨g5, 1, none⟩) := hL.1
        have e83 : a.tmps.getD 83 undef = .bool true := hL.2.1
        clear hL
        refine ⟨true, e83, ?_⟩
        rw [if_pos rfl]
        have kb : Bk W g5 30 #[.int .i64 255, .slice Xd 6 xd, .slice Xc 0 xc, .int .i64 0] := hS.x.k
        have f1 := kb.cell 1
        clear kb
        go_simp
        exact ⟨⟨fun d hd => by injection hd with hd; subst hd; rfl, fun h => by cases h⟩, hS, Below.refl _ _⟩
    · as_aux_lemma =>
        intro vals a W hS hL
        have e85 : a.tmps.getD 85 undef = .slice Xd 6 xd := hL.1
        have e83 : a.tmps.getD 83 undef = .bool true := hL.2.1
        clear hL
        refine ⟨true, e83, ?_⟩
        rw [if_pos rfl]
        have hs := run_str (c := xd) hS.x.r.data
        rw [show strOf kX.data = ⟨#[8, 0, 8, 0, 0, 0]⟩ from rfl, show kX.data.length = 6 from rfl] at hs
        go_simp
        exact ⟨⟨fun d hd => by injection hd with hd; subst hd; rfl, fun h => by cases h⟩, hS, Below.refl _ _⟩
    · as_aux_lemma =>
        intro vals a W hS hL
        have e86 : a.tmps.getD 86 undef = .string ⟨#[8, 0, 8, 0, 0, 0]⟩ := hL.1
        have e83 : a.tmps.getD 83 undef = .bool true := hL.2.1
        clear hL
        refine ⟨true, e83, ?_⟩
        rw [if_pos rfl]
        go_simp
        exact ⟨⟨fun d hd => by injection hd with hd; subst hd; rfl, fun h => by cases h⟩, hS, Below.refl _ _⟩
    · as_aux_lemma =>
        intro vals a W hS hL
        have e83 : a.tmps.getD 83 undef = .bool true := hL.1
        have e87 : a.tmps.getD 87 undef = .bool true := hL.2.1
        clear hL
        go_simp
        exact ⟨⟨fun d hd => by injection hd with hd; subst hd; rfl, fun h => by cases h⟩, hS, Below.refl _ _⟩
    · as_aux_lemma =>
        intro vals a W hS hL
        have e88 : a.tmps.getD 88 undef = .bool true := hL.1
        clear hL
        go_simp
        exact ⟨⟨fun d hd => by injection hd with hd; subst hd; rfl, fun h => by cases h⟩, hS, Below.refl _ _⟩
    · as_aux_lemma =>
        intro vals a W hS hL
        have e4 : a.tmps.getD 4 undef = .pointer (some ⟨g4, 0, none⟩) := hL.1
        have e89 : a.tmps.getD 89 undef = .bool true := hL.2.1
        clear hL
        refine ⟨true, e89, ?_⟩
        rw [if_pos rfl]
        go_simp
        exact ⟨⟨fun d hd => by injection hd with hd; subst hd; rfl, fun h => by cases h⟩, hS, Below.refl _ _⟩
    · as_aux_lemma =>
        intro vals a W hS hL
        have e90 : a.tmps.getD 90 undef = .pointer (some ⟨g4, 0, none⟩) := hL.1
        have e89 : a.tmps.getD 89 undef = .bool true := hL.2.1
        clear hL
        refine ⟨true, e89, ?_⟩
        rw [if_pos rfl]
        have kb : Bk W g4 30 #[.int .i64 252, .slice Ad 16 cd, .slice Ac 0 cc, .int .i64 0] := hS.r.k
        have f0 := kb.cell 0
        clear kb
        go_simp
        exact ⟨⟨fun d hd => by injection hd with hd; subst hd; rfl, fun h => by cases h⟩, hS, Below.refl _ _⟩
    · as_aux_lemma =>
        intro vals a W hS hL
        have e91 : a.tmps.getD 91 undef = .int .i64 252 := hL.1
        have e89 : a.tmps.getD 89 undef = .bool true := hL.2.1
        clear hL
        refine ⟨true, e89, ?_⟩
        rw [if_pos rfl]
        go_simp
        exact ⟨⟨fun d hd => by injection hd with hd; subst hd; rfl, fun h => by cases h⟩, hS, Below.refl _ _⟩
    · as_aux_lemma =>
        intro vals a W hS hL
        have e89 : a.tmps.getD 89 undef = .bool true := hL.1
        have e92 : a.tmps.getD 92 undef = .bool true := hL.2.1
        clear hL
        go_simp
        exact ⟨⟨fun d hd => by injection hd with hd; subst hd; rfl, fun h => by cases h⟩, hS, Below.refl _ _⟩
    · as_aux_lemma =>
        intro vals a W hS hL
        have e93 : a.tmps.getD 93 undef = .bool true := hL.1
        clear hL
        go_simp
        exact ⟨⟨fun d hd => by injection hd with hd; subst hd; rfl, fun h => by cases h⟩, hS, Below.refl _ _⟩
    · as_aux_lemma =>
        intro vals a W hS hL
        have e7 : a.tmps.getD 7 undef = .pointer (some ⟨g7, 0, none⟩) := hL.1
        have e94 : a.tmps.getD 94 undef = .bool true := hL.2.1
        clear hL
        refine ⟨true, e94, ?_⟩
        rw [if_pos rfl]
        have kb : Bk W g7 34 #[.slice Au 2 cu, .int .i64 3] := hS.u.k
        have f0 := kb.cell 0
        have f1 := kb.cell 1
        clear kb
        go_simp
        exact ⟨⟨fun d hd => by injection hd with hd; subst hd; rfl, fun h => by cases h⟩, hS, Below.refl _ _⟩
    · as_aux_lemma =>
        intro vals a W hS hL
        have e95 : a.tmps.getD 95 undef = .agg #[.slice Au 2 cu, .int .i64 3] := hL.1
        have e94 : a.tmps.getD 94 undef = .bool true := hL.2.1
        clear hL
        refine ⟨true, e94, ?_⟩
        rw [if_pos rfl]
        go_simp
        refine of_any.mono ?_
        rintro e W' ⟨rfl, hb⟩
        exact ⟨_, rfl, ⟨fun d hd => by injection hd with hd; subst hd; rfl, fun h => by cases h⟩, hS.below hb, hb⟩
    · as_aux_lemma =>
        intro vals a W hS hL
        have e1 : a.tmps.getD 1 undef = .pointer (some ⟨g1, 0, none⟩) := hL.1
        have e94 : a.tmps.getD 94 undef = .bool true := hL.2.1
        clear hL
        refine ⟨true, e94, ?_⟩
        rw [if_pos rfl]
        have kb : Bk W g1 34 #[.slice Ax 2 cx, .int .i64 3] := hS.t.k
        have f0 := kb.cell 0
        have f1 := kb.cell 1
        clear kb
        go_simp
        exact ⟨⟨fun d hd => by injection hd with hd; subst hd; rfl, fun h => by cases h⟩, hS, Below.refl _ _⟩
    · as_aux_lemma =>
        intro vals a W hS hL
        have e97 : a.tmps.getD 97 undef = .agg #[.slice Ax 2 cx, .int .i64 3] := hL.1
        have e94 : a.tmps.getD 94 undef = .bool true := hL.2.1
        clear hL
        refine ⟨true, e94, ?_⟩
        rw [if_pos rfl]
        go_simp
        refine of_any.mono ?_
        rintro e W' ⟨rfl, hb⟩
        exact ⟨_, rfl, ⟨fun d hd => by injection hd with hd; subst hd; rfl, fun h => by cases h⟩, hS.below hb, hb⟩
    · as_aux_lemma =>
        intro vals a W hS hL
        have e96 : a.tmps.getD 96 undef = .agg #[.slice Au 2 cu, .int .i64 3] := hL.1
        have e98 : a.tmps.getD 98 undef = .agg #[.slice Ax 2 cx, .int .i64 3] := hL.2.1
        have e94 : a.tmps.getD 94 undef = .bool true := hL.2.2.1
        clear hL
        refine ⟨true, e94, ?_⟩
        rw [if_pos rfl]
        go_simp
        refine (ks1 hS.u.r hS.t.r).mono ?_
        rintro e W' ⟨rfl, hb⟩
        exact ⟨_, rfl, ⟨fun d hd => by injection hd with hd; subst hd; rfl, fun h => by cases h⟩, hS.below hb, hb⟩
    · as_aux_lemma =>
        intro vals a W hS hL
        have e94 : a.tmps.getD 94 undef = .bool true := hL.1
        have e99 : a.tmps.getD 99 undef = .bool true := hL.2.1
        clear hL
        go_simp
        exact ⟨⟨fun d hd => by injection hd with hd; subst hd; rfl, fun h => by cases h⟩, hS, Below.refl _ _⟩
    · as_aux_lemma =>
        intro vals a W hS hL
        have e100 : a.tmps.getD 100 undef = .bool true := hL.1
        clear hL
        go_simp
        exact ⟨⟨fun d hd => by injection hd with hd; subst hd; rfl, fun h => by cases h⟩, hS, Below.refl _ _⟩
    · as_aux_lemma =>
        intro vals a W hS hL
        have e11 : a.tmps.getD 11 undef = .int .i64 7 := hL.1
        have e101 : a.tmps.getD 101 undef = .bool true := hL.2.1
        clear hL
        refine ⟨true, e101, ?_⟩
        rw [if_pos rfl]
        go_simp
        exact ⟨⟨fun d hd => by injection hd with hd; subst hd; rfl, fun h => by cases h⟩, hS, Below.refl _ _⟩
    · as_aux_lemma =>
        intro vals a W hS hL
        have e102 : a.tmps.getD 102 undef = .int .i64 7 := hL.1
        have e101 : a.tmps.getD 101 undef = .bool true := hL.2.1
        clear hL
        refine ⟨true, e101, ?_⟩
        rw [if_pos rfl]
        go_simp
        exact ⟨⟨fun d hd => by injection hd with hd; subst hd; rfl, fun h => by cases h⟩, hS, Below.refl _ _⟩
    · as_aux_lemma =>
        intro vals a W hS hL
        have e101 : a.tmps.getD 101 undef = .bool true := hL.1
        have e103 : a.tmps.getD 103 undef = .bool true := hL.2.1
        clear hL
        go_simp
        exact ⟨⟨fun d hd => by injection hd with hd; subst hd; rfl, fun h => by cases h⟩, hS, Below.refl _ _⟩
    · as_aux_lemma =>
        intro vals a W hS hL
        have e104 : a.tmps.getD 104 undef = .bool true := hL.1
        clear hL
        go_simp
        exact ⟨⟨fun d hd => by injection hd with hd; subst hd; rfl, fun h => by cases h⟩, hS, Below.refl _ _⟩
    · as_aux_lemma =>
        intro vals a W hS hL
        have e13 : a.tmps.getD 13 undef = .int .i64 2 := hL.1
        have e105 : a.tmps.getD 105 undef = .bool true := hL.2.1
        clear hL
        refine ⟨true, e105, ?_⟩
        rw [if_pos rfl]
        go_simp
        exact ⟨⟨fun d hd => by injection hd with hd; subst hd; rfl, fun h => by cases h⟩, hS, Below.refl _ _⟩
    · as_aux_lemma =>
        intro vals a W hS hL
        have e106 : a.tmps.getD 106 undef = .int .i64 2 := hL.1
        have e105 : a.tmps.getD 105 undef = .bool true := hL.2.1
        clear hL
        refine ⟨true, e105, ?_⟩
        rw [if_pos rfl]
        go_simp
        exact ⟨⟨fun d hd => by injection hd with hd; subst hd; rfl, fun h => by cases h⟩, hS, Below.refl _ _⟩
    · as_aux_lemma =>
        intro vals a W hS hL
        have e105 : a.tmps.getD 105 undef = .bool true := hL.1
        have e107 : a.tmps.getD 107 undef = .bool true := hL.2.1
        clear hL
        go_simp
        exact ⟨⟨fun d hd => by injection hd with hd; subst hd; rfl, fun h => by cases h⟩, hS, Below.refl _ _⟩
    · as_aux_lemma =>
        intro vals a W hS hL
        have e108 : a.tmps.getD 108 undef = .bool true := hL.1
        clear hL
        go_simp
        exact ⟨⟨fun d hd => by injection hd with hd; subst hd; rfl, fun h => by cases h⟩, hS, Below.refl _ _⟩
    · as_aux_lemma =>
        intro vals a W hS hL
        have e15 : a.tmps.getD 15 undef = .int .i64 1 := hL.1
        have e109 : a.tmps.getD 109 undef = .bool true := hL.2.1
        clear hL
        refine ⟨true, e109, ?_⟩
        rw [if_pos rfl]
        go_simp
        exact ⟨⟨fun d hd => by injection hd with hd; subst hd; rfl, fun h => by cases h⟩, hS, Below.refl _ _⟩
    · as_aux_lemma =>
        intro vals a W hS hL
        have e110 : a.tmps.getD 110 undef = .int .i64 1 := hL.1
        have e109 : a.tmps.getD 109 undef = .bool true := hL.2.1
        clear hL
        refine ⟨true, e109, ?_⟩
        rw [if_pos rfl]
        go_simp
        exact ⟨⟨fun d hd => by injection hd with hd; subst hd; rfl, fun h => by cases h⟩, hS, Below.refl _ _⟩
    · as_aux_lemma =>
        intro vals a W hS hL
        have e109 : a.tmps.getD 109 undef = .bool true := hL.1
        have e111 : a.tmps.getD 111 undef = .bool true := hL.2.1
        clear hL
        go_simp
        exact ⟨⟨fun d hd => by injection hd with hd; subst hd; rfl, fun h => by cases h⟩, hS, Below.refl _ _⟩
    · as_aux_lemma =>
        intro vals a W hS hL
        have e112 : a.tmps.getD 112 undef = .bool true := hL.1
        clear hL
        go_simp
        exact ⟨⟨fun d hd => by injection hd with hd; subst hd; rfl, fun h => by cases h⟩, hS, Below.refl _ _⟩
    · as_aux_lemma =>
        intro vals a W hS hL
        have e1 : a.tmps.getD 1 undef = .pointer (some ⟨g1, 0, none⟩) := hL.1
        have e113 : a.tmps.getD 113 undef = .bool true := hL.2.1
        clear hL
        refine ⟨true, e113, ?_⟩
        rw [if_pos rfl]
        have kb : Bk W g1 34 #[.slice Ax 2 cx, .int .i64 3] := hS.t.k
        have f0 := kb.cell 0
        have f1 := kb.cell 1
        clear kb
        go_simp
        exact ⟨⟨fun d hd => by injection hd with hd; subst hd; rfl, fun h => by cases h⟩, hS, Below.refl _ _⟩
    · as_aux_lemma =>
        intro vals a W hS hL
        have e114 : a.tmps.getD 114 undef = .agg #[.slice Ax 2 cx, .int .i64 3] := hL.1
        have e113 : a.tmps.getD 113 undef = .bool true := hL.2.1
        clear hL
        refine ⟨true, e113, ?_⟩
        rw [if_pos rfl]
        go_simp
        refine (kp1 hS.v hS.t.r).mono ?_
        rintro e W' ⟨Ap, cp, rfl, hr, hb⟩
        exact ⟨_, rfl, ⟨fun d hd => by injection hd with hd; subst hd; exact ⟨Ap, 2, cp, rfl, rfl, hr⟩, fun h => by cases h⟩, hS.below hb, hb⟩
    · as_aux_lemma =>
        intro vals a W hS hL
        have e113 : a.tmps.getD 113 undef = .bool true := hL.1
        clear hL
        refine ⟨true, e113, ?_⟩
        rw [if_pos rfl]
        go_simp
        exact ⟨⟨fun d hd => by injection hd with hd; subst hd; exact ⟨_, 2, _, rfl, rfl, by have := Rd.fresh W 3 1 2 [.int .i64 8, .int .i64 12] rfl; exact this.mono (by simp)⟩, fun h => by cases h⟩, hS.below (bx1' W _), bx1' W _⟩
    · as_aux_lemma =>
        intro vals a W hS hL
        have e115 := hL.1
        have e116 := hL.2.1
        have e113 : a.tmps.getD 113 undef = .bool true := hL.2.2.1
        clear hL
        refine ⟨true, e113, ?_⟩
        rw [if_pos rfl]
        obtain ⟨Ap, n1, cp, e115, rfl, hr1⟩ := e115
        obtain ⟨Aq, n2, cq, e116, rfl, hr2⟩ := e116
        rw [Array.getD_eq_getD_getElem?] at e115 e116
        go_simp
        refine (ints_any (l := [8, 12]) (l' := [8, 12]) hr1 hr2 (by omega) (by omega)).mono ?_
        rintro e W' ⟨rfl, hb⟩
        exact ⟨_, rfl, ⟨fun d hd => by injection hd with hd; subst hd; rfl, fun h => by cases h⟩, hS.below hb, hb⟩
    · as_aux_lemma =>
        intro vals a W hS hL
        have e113 : a.tmps.getD 113 undef = .bool true := hL.1
        have e117 : a.tmps.getD 117 undef = .bool true := hL.2.1
        clear hL
        go_simp
        exact ⟨⟨fun d hd => by injection hd with hd; subst hd; rfl, fun h => by cases h⟩, hS, Below.refl _ _⟩
    · as_aux_lemma =>
        intro vals a W hS hL
        have e118 : a.tmps.getD 118 undef = .bool true := hL.1
        clear hL
        go_simp
        exact ⟨⟨fun d hd => by injection hd with hd; subst hd; rfl, fun h => by cases h⟩, hS, Below.refl _ _⟩
    · as_aux_lemma =>
        intro vals a W hS hL
        have e119 : a.tmps.getD 119 undef = .bool true := hL.1
        clear hL
        refine ⟨true, e119, ?_⟩
        rw [if_pos rfl]
        go_simp
        exact ⟨⟨fun d hd => by injection hd with hd; subst hd; exact ⟨_, 1, _, rfl, rfl, by have := fresh_tv W [[97]]; exact this.mono (by simp)⟩, fun h => by cases h⟩, hS.below (bx1' W _), bx1' W _⟩
    · as_aux_lemma =>
        intro vals a W hS hL
        have e120 := hL.1
        have e119 : a.tmps.getD 119 undef = .bool true := hL.2.1
        clear hL
        refine ⟨true, e119, ?_⟩
        rw [if_pos rfl]
        obtain ⟨Ap, n1, cp, e120, rfl, hr1⟩ := e120
        rw [Array.getD_eq_getD_getElem?] at e120
        go_simp
        exact ⟨⟨fun d hd => by injection hd with hd; subst hd; exact ⟨Ap, cp, rfl, hr1⟩, fun h => by cases h⟩, hS, Below.refl _ _⟩
    · as_aux_lemma =>
        intro vals a W hS hL
        have e121 := hL.1
        have e119 : a.tmps.getD 119 undef = .bool true := hL.2.1
        clear hL
        refine ⟨true, e119, ?_⟩
        rw [if_pos rfl]
        obtain ⟨Ap, cp, e121, hr1⟩ := e121
        rw [Array.getD_eq_getD_getElem?] at e121
        go_simp
        refine (checkTab_any (c := cp) (u := 0) hS.v hr1 (Nat.le_refl _) (by omega) k_short1).mono ?_
        rw [k_chk]
        rintro e W' ⟨rfl, hb⟩
        exact ⟨_, rfl, ⟨fun d hd => by injection hd with hd; subst hd; rfl, fun h => by cases h⟩, hS.below hb, hb⟩
    · as_aux_lemma =>
        intro vals a W hS hL
        have e122 : a.tmps.getD 122 undef = .int .i64 1 := hL.1
        have e119 : a.tmps.getD 119 undef = .bool true := hL.2.1
        clear hL
        refine ⟨true, e119, ?_⟩
        rw [if_pos rfl]
        go_simp
        exact ⟨⟨fun d hd => by injection hd with hd; subst hd; rfl, fun h => by cases h⟩, hS, Below.refl _ _⟩
    · as_aux_lemma =>
        intro vals a W hS hL
        have e119 : a.tmps.getD 119 undef = .bool true := hL.1
        have e123 : a.tmps.getD 123 undef = .bool true := hL.2.1
        clear hL
        go_simp
        exact ⟨⟨fun d hd => by injection hd with hd; subst hd; rfl, fun h => by cases h⟩, hS, Below.refl _ _⟩
    · as_aux_lemma =>
        intro vals a W hS hL
        have e124 : a.tmps.getD 124 undef = .bool true := hL.1
        clear hL
        go_simp
        exact ⟨⟨fun d hd => by injection hd with hd; subst hd; rfl, fun h => by cases h⟩, hS, Below.refl _ _⟩
  · intro a W' vals hd hsz hT hF hv hP hS
    have e0 : a.tmps.getD 0 undef = .bool true := hT 0 (by simp)
    have hbF := hS.b
    clear hT hF hv hP hS HKS
    go_wp2
    refine bodyPost_ret (v := .bool true) ?_ hd ⟨rfl, hbF⟩
    rw [Array.getD_eq_getD_getElem?] at e0
    simp [results, Tryz.results5, go_sem, e0]
end Go.Proofs.YtllcecnkbndokaaGreatDoor
