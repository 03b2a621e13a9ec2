/- cashbooklaw7.SstCuts by its contract: it returns true. Conditions: the texts and the bytes read as such; utf8.ValidString keeps its contract. -/
import Derived.Test.YtllcecnkbndokaaDoorCutLaw0
import Derived.Test.YtllcecnkbndokaaDoorBuildsLaw
namespace Go.Proofs.YtllcecnkbndokaaDoor
open Go.RowKit Go.Lib

/-- What is held on the way: the table's box, the index's box, the rows of both records. -/
structure CR (w W : World) (g2 g6 : Nat) (A : Option Addr) (n c : Nat) (u : Int) (Ad : Option Addr) (cd : Nat) (b : List UInt8) (Ac : Option Addr) (cc : Nat) (cs : List Int) (Ax : Option Addr) (xc : Nat) (Ay : Option Addr) (yc : Nat) (X : RecM) : Prop where
  b2 : Bk W g2 31 #[.slice A n c, .int .i64 u]
  b6 : Bk W g6 41 #[.int .i64 255, .slice Ax X.data.length xc, .slice Ay X.cuts.length yc, .int .i64 0]
  od : W.ownsRow w.heap.size 5 1 (.slice Ad b.length cd) b.length (b.map bv)
  oc : W.ownsRow w.heap.size 3 1 (.slice Ac cs.length cc) cs.length (cs.map iv)
  ox : W.ownsRow w.heap.size 5 1 (.slice Ax X.data.length xc) X.data.length (X.data.map bv)
  oy : W.ownsRow w.heap.size 3 1 (.slice Ay X.cuts.length yc) X.cuts.length (X.cuts.map iv)
  b : Below w.heap.size w W
section
variable {w W W' : World} {g2 g6 n c cd cc xc yc : Nat} {A Ad Ac Ax Ay : Option Addr} {u : Int} {b : List UInt8} {cs : List Int} {X : RecM}
theorem CR.below (h : CR w W g2 g6 A n c u Ad cd b Ac cc cs Ax xc Ay yc X) (hb : Below W.heap.size W W') : CR w W' g2 g6 A n c u Ad cd b Ac cc cs Ax xc Ay yc X :=
  ⟨h.b2.below hb h.b2.lt, h.b6.below hb h.b6.lt, own_below h.od hb, own_below h.oc hb, own_below h.ox hb, own_below h.oy hb, h.b.trans (hb.mono h.b.size)⟩
end

theorem cell_of {W : World} {B n j : Nat} {a : Addr} {v : Value} {xs : List Value} (h : Rd W B 1 (some a) n xs) (hv : xs[j]? = some v) : W.cell? (a.add j) = some v := by
  have hj := (List.getElem?_eq_some_iff.1 hv).1
  obtain ⟨a', u, ha, -, hu, hc⟩ := h.cell (i := j) (by have := h.len; omega)
  injection ha with ha
  subst ha
  rw [hc, ← hu, hv]
theorem int_cell {W0 W : World} {n k : Nat} {a : Addr} {x : Int} {l : List Int} (h : Rd W0 W0.heap.size 1 (some a) n (l.map iv)) (hb : Below W0.heap.size W0 W) (hx : l[k]? = some x) : W.cell? (a.add k) = some (.int .i64 x) :=
  cell_of (h.belowMono hb (Nat.le_refl _)) (by rw [List.getElem?_map, hx]; rfl)
theorem nat_cell {W0 W : World} {n k : Nat} {a : Addr} {x : Nat} {l : List Nat} (h : Rd W0 W0.heap.size 1 (some a) n (l.map nv)) (hb : Below W0.heap.size W0 W) (hx : l[k]? = some x) : W.cell? (a.add k) = some (.int .i64 x) :=
  cell_of (h.belowMono hb (Nat.le_refl _)) (by rw [List.getElem?_map, hx]; rfl)
theorem run_loI (w : World) (A : Option Addr) (n c k : Nat) (hk : k ≤ n) : (Instr.sliceAt 27 (.slice A n c) (some (.int .i64 (k : Int))) none none).run Tryd.prog w = .ok (.slice (adv A c k) (n - k) (c - k)) w := by
  unfold adv
  have hu : Tryd.prog.underlying 27 = some (.slice (Tryd.prog.elem 27)) := by kernel_rfl
  rw [run_sliceAt_slice _ _ _ _ _ _ hu, run_slice_l _ _ _ _ _ hu .i64 (k : Int) (by omega) (by omega)]
  have hs : (sizeOf (Tryd.prog.elem 27)).run Tryd.prog w = .ok 1 w := by kernel_rfl
  rw [hs]
  simp [Result.andThen, sliced]
theorem rd_adv {w : World} {B n c k : Nat} {A : Option Addr} {xs : List Value} (h : Rd w B 1 A n xs) (hk : k ≤ n) (hn : n ≤ c) : Rd w B 1 (adv A c k) (n - k) (xs.drop k) := by
  have hl : xs.length = n := by have := h.len; omega
  have := h.cut (i := k) (j := n) hk (Nat.le_refl _) hn
  rw [Nat.mul_one, Nat.mul_one, List.take_of_length_le (by rw [List.length_drop]; omega)] at this
  exact this

theorem bk_two {W : World} {g : Nat} {T T' : TypeId} {cs cs' : Array Value} (h : Bk W g T cs) (h' : Bk W g T' cs') (hT : T ≠ T') : False := by
  unfold Bk at h h'
  rw [h] at h'
  injection h' with h'
  injection h' with _ h2 _
  exact hT h2
theorem Keep.below' {w W W' : World} {g : Nat} (h : Keep (fun i => i = g) W W') (hb : Below w.heap.size w W) (hg : w.heap.size ≤ g) : Below w.heap.size w W' := hb.trans (h.below hb.size fun i hi e => by omega)
/-- What a step of the region may change: tables' boxes that are the call's own. -/
def CE (w W : World) (i : Nat) : Prop := w.heap.size ≤ i ∧ ∃ cs, Bk W i 26 cs
theorem ce_below {w W W' : World} (hb : Below W.heap.size W W') : Keep (CE w W) W W' := Keep.of_below hb fun i hi h => by omega
theorem ce_own {w W W' : World} {base n : Nat} {e : TypeId} {v : Value} {xs : List Value} (hK : Keep (CE w W) W W') (ho : W.ownsRow base e 1 v n xs) (he : e ≠ 26) : W'.ownsRow base e 1 v n xs :=
  hK.own ho fun i hi ⟨_, cs, hk⟩ => own_ne ho hk he hi
theorem ce_bk {w W W' : World} {g : Nat} {T : TypeId} {cs : Array Value} (hK : Keep (CE w W) W W') (hk : Bk W g T cs) (hT : T ≠ 26) : Bk W' g T cs :=
  hK.bk hk fun ⟨_, cs', hk'⟩ => by
    unfold Bk at hk hk'
    rw [hk] at hk'
    injection hk' with hk'
    injection hk' with _ h2 _
    exact hT h2
/-- What is held through the last regions. -/
structure DC (w W : World) (g2 g6 g9 : Nat) (A : Option Addr) (n c : Nat) (u : Int) (Ad : Option Addr) (cd : Nat) (b : List UInt8) (Aq : Option Addr) (qc : Nat) (qs : List Int) (Ax : Option Addr) (xc : Nat) (Ay : Option Addr) (yc : Nat) (X : RecM) : Prop where
  b2 : Bk W g2 31 #[.slice A n c, .int .i64 u]
  b6 : Bk W g6 41 #[.int .i64 255, .slice Ax X.data.length xc, .slice Ay X.cuts.length yc, .int .i64 0]
  b9 : Bk W g9 46 #[.int .i64 252, .slice Ad b.length cd, .slice Aq qs.length qc, .int .i64 0]
  od : W.ownsRow w.heap.size 5 1 (.slice Ad b.length cd) b.length (b.map bv)
  oq : W.ownsRow w.heap.size 3 1 (.slice Aq qs.length qc) qs.length (qs.map iv)
  ox : W.ownsRow w.heap.size 5 1 (.slice Ax X.data.length xc) X.data.length (X.data.map bv)
  oy : W.ownsRow w.heap.size 3 1 (.slice Ay X.cuts.length yc) X.cuts.length (X.cuts.map iv)
  b : Below w.heap.size w W
section
variable {w W W' : World} {g2 g6 g9 n c cd qc xc yc : Nat} {A Ad Aq Ax Ay : Option Addr} {u : Int} {b : List UInt8} {qs : List Int} {X : RecM}
theorem DC.keep (h : DC w W g2 g6 g9 A n c u Ad cd b Aq qc qs Ax xc Ay yc X) (hK : Keep (CE w W) W W') : DC w W' g2 g6 g9 A n c u Ad cd b Aq qc qs Ax xc Ay yc X :=
  ⟨ce_bk hK h.b2 (by decide), ce_bk hK h.b6 (by decide), ce_bk hK h.b9 (by decide), ce_own hK h.od (by decide), ce_own hK h.oq (by decide), ce_own hK h.ox (by decide), ce_own hK h.oy (by decide), h.b.trans (hK.below h.b.size fun i hi ⟨h1, _⟩ => by omega)⟩
theorem DC.below (h : DC w W g2 g6 g9 A n c u Ad cd b Aq qc qs Ax xc Ay yc X) (hb : Below W.heap.size W W') : DC w W' g2 g6 g9 A n c u Ad cd b Aq qc qs Ax xc Ay yc X := h.keep (ce_below hb)
end
/-- The state by the phases gone by: the new box made, filled. -/
def DS (w : World) (D : World → Prop) (n : Nat) (u : Int) (L : List (List UInt8)) : List Value → World → Prop
  | [], W => D W
  | [v], W => D W ∧ ∃ g, v = .pointer (some ⟨g, 0, none⟩) ∧ w.heap.size ≤ g ∧ Bk W g 26 #[.slice none 0 0, .int .i64 0]
  | v :: _ :: _, W => D W ∧ ∃ g A c, v = .pointer (some ⟨g, 0, none⟩) ∧ w.heap.size ≤ g ∧ Bk W g 26 #[.slice A n c, .int .i64 u] ∧ W.ownsRow w.heap.size 9 1 (.slice A n c) n (L.map tv)
theorem DS.dc {w W : World} {D : World → Prop} {n : Nat} {u : Int} {L : List (List UInt8)} {vals : List Value} (h : DS w D n u L vals W) : D W := by
  match vals, h with
  | [], h => exact h
  | [_], h => exact h.1
  | _ :: _ :: _, h => exact h.1
theorem DS.call {w W W' : World} {D : World → Prop} {n : Nat} {u : Int} {L : List (List UInt8)} {vals : List Value} (h : DS w D n u L vals W) (hD : D W') (hb : Below W.heap.size W W') : DS w D n u L vals W' := by
  match vals, h with
  | [], h => exact hD
  | [_], ⟨_, g, h1, h2, h3⟩ => exact ⟨hD, g, h1, h2, h3.below hb h3.lt⟩
  | _ :: _ :: _, ⟨_, g, A, c, h1, h2, h3, h4⟩ => exact ⟨hD, g, A, c, h1, h2, h3.below hb h3.lt, own_below h4 hb⟩
def FT (w : World) (b : List UInt8) (qs : List Int) (v : Value) (W : World) : Prop := ∃ A c A' c', v = .agg #[.int .i64 252, .slice A b.length c, .slice A' qs.length c', .int .i64 0] ∧ W.ownsRow w.heap.size 5 1 (.slice A b.length c) b.length (b.map bv) ∧ W.ownsRow w.heap.size 3 1 (.slice A' qs.length c') qs.length (qs.map iv)
def FD (w : World) (n : Nat) (u : Int) (L : List (List UInt8)) (v : Value) (W : World) : Prop := ∃ A c, v = .tuple #[.agg #[.slice A n c, .int .i64 u], .int .i64 0] ∧ W.ownsRow w.heap.size 9 1 (.slice A n c) n (L.map tv)
def FX (w : World) (n : Nat) (u : Int) (L : List (List UInt8)) (v : Value) (W : World) : Prop := ∃ A c, v = .agg #[.slice A n c, .int .i64 u] ∧ W.ownsRow w.heap.size 9 1 (.slice A n c) n (L.map tv)
theorem ft_stable {w : World} {b : List UInt8} {qs : List Int} : Stable (fun W W' => Keep (CE w W) W W') (FT w b qs) := fun _ _ _ hK ⟨A, c, A', c', h, h1, h2⟩ => ⟨A, c, A', c', h, ce_own hK h1 (by decide), ce_own hK h2 (by decide)⟩
theorem fd_stable {w : World} {n : Nat} {u : Int} {L : List (List UInt8)} : Stable (fun W W' => Keep (CE w W) W W') (FD w n u L) := fun _ _ _ hK ⟨A, c, h, h1⟩ => ⟨A, c, h, ce_own hK h1 (by decide)⟩
theorem fx_stable {w : World} {n : Nat} {u : Int} {L : List (List UInt8)} : Stable (fun W W' => Keep (CE w W) W W') (FX w n u L) := fun _ _ _ hK ⟨A, c, h, h1⟩ => ⟨A, c, h, ce_own hK h1 (by decide)⟩
/-- The last region's state. -/
structure TS (w W : World) (g15 g2 : Nat) (At : Option Addr) (ct : Nat) (A : Option Addr) (c : Nat) (L : List (List UInt8)) (u : Int) (n : Nat) : Prop where
  t : TBx 26 W g15 At ct L u n
  s : TBx 31 W g2 A c L u n
  b : Below w.heap.size w W
theorem TS.below {w W W' : World} {g15 g2 ct c n : Nat} {At A : Option Addr} {L : List (List UInt8)} {u : Int} (h : TS w W g15 g2 At ct A c L u n) (hb : Below W.heap.size W W') : TS w W' g15 g2 At ct A c L u n := ⟨h.t.below hb, h.s.below hb, h.b.trans (hb.mono h.b.size)⟩

theorem own_cap {w : World} {base n c : Nat} {e : TypeId} {A : Option Addr} {xs : List Value} (h : w.ownsRow base e 1 (.slice A n c) n xs) : n ≤ c := by
  obtain ⟨_, _, he, hc, -, -⟩ := own_form h
  injection he with _ _ h3
  omega
set_option maxHeartbeats 32000000 in
set_option maxRecDepth 100000 in
theorem sCutsLaw_any {w : World} {B n c m d : Nat} {A D : Option Addr} {L : List (List UInt8)} {u : Int} {bs : List UInt8} (HV : Val w) (h : Rd w B 1 A n (L.map tv)) (hD : Rd w B 1 D m (bs.map bv)) (hB : B ≤ w.heap.size) (hsz : ∀ l ∈ L, l.length ≤ 1000000000000000) :
    Calls Tryd.prog 4 #[.agg #[.slice A n c, .int .i64 u], .slice D m d] w fun e w' => e = .returned (.bool true) ∧ Below w.heap.size w w' := by
  have hl := h.tlen
  have HVV := Lib.hid HV
  clear HV
  have hW := bx1' w (.cells #[.slice A n c, .int .i64 u] 31)
  have k0 := Bk.new w 31 #[.slice A n c, .int .i64 u]
  go_enter Tryd.func4, Tryd.ntmps4
  go_wp2_with fail
  generalize hWW : w.alloc (.cells #[.slice A n c, .int .i64 u] 31) = w0 at *
  clear hWW
  refine (known_any (HVV.out.below hW)).mono ?_
  rintro e w1 ⟨rfl, b1⟩
  have k1 := k0.below b1 k0.lt
  have hb1 := hW.trans (b1.mono hW.size)
  have c10 := k1.cell 0
  have c11 := k1.cell 1
  have HFW := few_any (c := c) (h.belowMono hb1 hB) hsz
  clear hsz k0 hW b1
  cases hf : fewB L
  · rw [hf] at HFW
    go_wp2_with fail
    refine HFW.mono ?_
    rintro e w2 ⟨rfl, rfl⟩
    go_wp2
    go_ret
    exact ⟨rfl, hb1⟩
  · rw [hf] at HFW
    obtain ⟨hn, hss⟩ := fewB_len hf
    rw [hl] at hn
    have hsl : ∀ l ∈ L, l.length ≤ 100000 := fun l hl => by have := hss l hl; omega
    have HSL := Lib.hid hsl
    clear hss hf
    by_cases hm : 20 < m
    · have hm' : (20 : Int) < (m : Int) := by omega
      clear hsl
      go_wp2_with fail
      refine HFW.mono ?_
      rintro e w2 ⟨rfl, rfl⟩
      clear HFW
      go_wp2
      go_ret
      exact ⟨rfl, hb1⟩
    · have hm' : ¬ (20 : Int) < (m : Int) := by omega
      have HCK := bCheck_any (c := c) (u := u) (h.belowMono hb1 hB) (Nat.le_trans hB hb1.size) (by omega) hsl
      clear hsl
      by_cases h0 : ckTab L u = 0
      · rw [h0] at HCK
        have H0 := Lib.hid h0
        clear h0
        go_wp2_with fail
        refine HFW.mono ?_
        rintro e w2 ⟨rfl, rfl⟩
        clear HFW
        go_wp2_with fail
        refine HCK.mono ?_
        rintro e w2 ⟨rfl, b2⟩
        have k2 := k1.below b2 k1.lt
        have hb2 := hb1.trans (b2.mono hb1.size)
        clear c10 c11 k1 b2 hb1 HCK
        have c10 := k2.cell 0
        have c11 := k2.cell 1
        go_wp2_with fail
        refine (toTab_any (c := c) (u := u) (h.belowMono hb2 hB) (Nat.le_trans hB hb2.size) (by omega)).mono ?_
        rintro e w3 ⟨A3, c3, rfl, r3, b3⟩
        have k3 := k2.below b3 k2.lt
        have hb3 := hb2.trans (b3.mono hb2.size)
        clear c10 c11 k2 b3 hb2
        rcases layE_cases H0.out with h4 | h4
        · go_wp2_with fail
          refine (encode_ok (c := c3) (HVV.out.below hb3) r3 (Nat.le_refl _) (by omega) HSL.out h4).mono ?_
          rintro e w4 ⟨Ad, cd, Ac, cc, Ax, xc, Ay, yc, rfl, o1, o2, o3, o4, b4⟩
          have hP : (encP L u) = layP L u := by unfold encP; rw [if_pos h4]
          have HPA := Lib.hid (fun (W : World) (A' : Option Addr) (c' : Nat) (hb : Below w.heap.size w W) (hr : Rd W W.heap.size 1 A' n (L.map tv)) => by
            have := places_any (u := u) (c := c') (HVV.out.below hb) hr (Nat.le_refl _) (by omega) HSL.out
            rw [hP] at this
            exact this)
          have HMT := Lib.hid (fun (i k : Nat) (M : List Int) (hM : MC (layS L u).cs (layP L u) i k M) => mc_tab H0.out (by omega) hM)
          have HFI := Lib.hid (lay_fits L (begL L u) (layS L u) (begL_inv L u) (Ext.refl _))
          have HRI := Lib.hid (places_rise L (begL L u))
          have HAP := Lib.hid (Inv.apart ((begL_inv L u).lay L))
          have HX : (encX L u).type = 255 ∧ (encX L u).at_ = 0 := by unfold encX; rw [if_pos h4]; exact ⟨rfl, rfl⟩
          have HXB := encX_bd (L := L) (u := u) (by omega) h4
          obtain ⟨z1, z2, z3⟩ := lay_sizes H0.out (by omega)
          rw [hl] at z3
          have HE4 := Lib.hid h4
          have k4 := k3.below b4 k3.lt
          have hb4 := hb3.trans (b4.mono hb3.size)
          clear r3 k3 b4 h4 hP
          have HFI : Hid (Fits (layS L u).cs (layP L u)) := HFI
          have HRI : Hid ((layP L u).Pairwise fun x y => x + 3 ≤ y) := HRI
          have HAP : Hid ((layS L u).cs.Pairwise fun x y => x + 2 ≤ y) := HAP
          have HDE := Lib.hid (fun (W : World) (A' D' : Option Addr) (c' m' d' : Nat) (cs' : List Int) (a1 : Int) (XA XD : Option Addr) (xc' xd' : Nat) (hb : Below w.heap.size w W) (hr : Rd W W.heap.size 1 A' (layS L u).b.length ((layS L u).b.map bv)) (hC : CutS W W.heap.size D' m' cs') (hc : (layS L u).b.length ≤ c') (hT : IsTab (layS L u).b cs' L u) (hXR : RecRd W W.heap.size (encX L u) XA xc' XD xd') =>
            decode_good (c := c') (d := d') (a1 := a1) (a2 := 0) (HVV.out.below hb) hr hC hc (by omega) (Nat.le_refl _) hT hXR HX.1 HX.2 HE4.out HSL.out (by simp [sameM]))
          have hW5 := (bx1' w4 (.cells #[.int .i64 252, .slice Ad (layS L u).b.length cd, .slice Ac (layS L u).cs.length cc, .int .i64 0] 41)).trans ((bx1' (w4.alloc (.cells #[.int .i64 252, .slice Ad (layS L u).b.length cd, .slice Ac (layS L u).cs.length cc, .int .i64 0] 41)) (.cells #[.int .i64 255, .slice Ax (encX L u).data.length xc, .slice Ay (encX L u).cuts.length yc, .int .i64 0] 41)).mono (by simp))
          have hR5 : CR w ((w4.alloc (.cells #[.int .i64 252, .slice Ad (layS L u).b.length cd, .slice Ac (layS L u).cs.length cc, .int .i64 0] 41)).alloc (.cells #[.int .i64 255, .slice Ax (encX L u).data.length xc, .slice Ay (encX L u).cuts.length yc, .int .i64 0] 41)) w.heap.size (w4.heap.size + 1) A n c u Ad cd (layS L u).b Ac cc (layS L u).cs Ax xc Ay yc (encX L u) :=
            ⟨k4.below hW5 k4.lt, by have := Bk.new (w4.alloc (.cells #[.int .i64 252, .slice Ad (layS L u).b.length cd, .slice Ac (layS L u).cs.length cc, .int .i64 0] 41)) 41 #[.int .i64 255, .slice Ax (encX L u).data.length xc, .slice Ay (encX L u).cuts.length yc, .int .i64 0]; rwa [show (w4.alloc (.cells #[.int .i64 252, .slice Ad (layS L u).b.length cd, .slice Ac (layS L u).cs.length cc, .int .i64 0] 41)).heap.size = w4.heap.size + 1 by simp] at this,
              own_mono (own_below o1 hW5) hb3.size, own_mono (own_below o2 hW5) hb3.size, own_mono (own_below o3 hW5) hb3.size, own_mono (own_below o4 hW5) hb3.size, hb4.trans (hW5.mono hb4.size)⟩
          have k5 : Bk ((w4.alloc (.cells #[.int .i64 252, .slice Ad (layS L u).b.length cd, .slice Ac (layS L u).cs.length cc, .int .i64 0] 41)).alloc (.cells #[.int .i64 255, .slice Ax (encX L u).data.length xc, .slice Ay (encX L u).cuts.length yc, .int .i64 0] 41)) w4.heap.size 41 #[.int .i64 252, .slice Ad (layS L u).b.length cd, .slice Ac (layS L u).cs.length cc, .int .i64 0] := (Bk.new w4 _ _).alloc _
          have H5 := Lib.hid (And.intro hR5 k5)
          have HX1 := Lib.hid HX.1
          clear hR5 k5 o1 o2 o3 o4 hW5 HX HE4 hb3 k4 hb4
          generalize encX L u = X at *
          generalize layP L u = ps at *
          generalize (layS L u).cs = cs at *
          generalize (layS L u).b = b at *
          subst z3
          have c10 := H5.out.1.b2.cell 0
          have c11 := H5.out.1.b2.cell 1
          go_wp2_with fail
          generalize hWW : (w4.alloc (.cells #[.int .i64 252, .slice Ad b.length cd, .slice Ac cs.length cc, .int .i64 0] 41)).alloc (.cells #[.int .i64 255, .slice Ax X.data.length xc, .slice Ay X.cuts.length yc, .int .i64 0] 41) = w5 at *
          clear hWW
          obtain ⟨hR5, k5⟩ := H5.out
          generalize w4.heap.size = g5 at *
          refine (toTab_any (c := c) (u := u) (h.belowMono hR5.b hB) (Nat.le_trans hB hR5.b.size) (by omega)).mono ?_
          rintro e w6 ⟨A6, c6, rfl, r6, b6⟩
          have hR6 := hR5.below b6
          have k6 := k5.below b6 k5.lt
          clear c10 c11 k5 hR5 b6 H5
          go_wp2_with fail
          refine (HPA.out w6 A6 c6 hR6.b r6).mono ?_
          rintro e w7 ⟨pv, rfl, o7, b7⟩
          obtain ⟨Ap, cp, rfl, -, -, rp⟩ := own_form o7
          have hR7 := hR6.below b7
          have k7 := k6.below b7 k6.lt
          have c50 := k7.cell 0
          have c51 := k7.cell 1
          have c52 := k7.cell 2
          have c53 := k7.cell 3
          clear hR6 k6 b7 o7 r6 HPA
          go_wp2_with fail
          refine of1_any.mono ?_
          rintro e w8 ⟨rfl, b8⟩
          have hW9 := bx1' w8 (.cells #[.int .i64 252, .slice Ad b.length cd, .slice Ac cs.length cc, .int .i64 0] 46)
          have b9 := b8.trans (hW9.mono b8.size)
          have hR9 := hR7.below b9
          have k9 := Bk.new w8 46 #[.int .i64 252, .slice Ad b.length cd, .slice Ac cs.length cc, .int .i64 0]
          have rp9 := (rp.belowMono b9 (Nat.le_refl _)).mono b9.size
          have hR9z : w.heap.size ≤ w8.heap.size := Nat.le_trans hR7.b.size b8.size
          clear c50 c51 c52 c53 k7 hR7 rp b8 b9 hW9
          go_wp2_with fail
          generalize hWW : w8.alloc (.cells #[.int .i64 252, .slice Ad b.length cd, .slice Ac cs.length cc, .int .i64 0] 46) = W0 at *
          clear hWW
          have hg9 : w.heap.size ≤ w8.heap.size := Nat.le_trans hR9z (Nat.le_refl _)
          generalize w8.heap.size = g9 at *
          have hD9 := hD.belowMono hR9.b hB
          have rc9 := own_form_rd hR9.oc
          have hBW := Nat.le_trans hB hR9.b.size
          have HR9 := Lib.hid hR9
          have hIN := h
          clear hR9 hD h
          generalize hpn : ps.length = n at *
          have HLN := Lib.hid hl
          have HG9 := Lib.hid hg9
          have HIN := Lib.hid (fun (W : World) (hb : Below w.heap.size w W) => (hIN.belowMono hb hB).mono hB)
          clear hIN hg9
          have HC2 := Lib.hid (fun (W : World) (hb : Below W0.heap.size W0 W) => show W.cell? ⟨g9, 2, none⟩ = some (.slice Ac cs.length cc) from (k9.below hb k9.lt).cell 2)
          have hcc : cs.length ≤ cc := by
            obtain ⟨_, _, e, hcc, -, -⟩ := own_form HR9.out.oc
            injection e with e1 e2 e3
            omega
          have HPN := Lib.hid hpn
          clear hpn
          go_loopw [10, 11, 12] (fun s10 s11 s12 wr => ∃ (i k : Nat) (M : List Int), i ≤ n ∧ s11 = .int .i64 k ∧ s12 = .int .i64 i ∧ M.length ≤ i + k ∧ k ≤ cs.length ∧ Hid (MP cs ps i k M) ∧ wr.ownsRow W0.heap.size 3 1 s10 M.length (M.map iv) ∧ Below W0.heap.size W0 wr) (fun _ _ s12 _ => n - (Go.RowKit.intOf s12).toNat)
          case atStart => exact ⟨0, 0, [], Nat.zero_le _, rfl, rfl, by simp, Nat.zero_le _, Lib.hid (MP.start _ _), World.ownsRow_nil _ _ _ _, Below.refl _ _⟩
          case round =>
            obtain ⟨i, k, M, hi, rfl, rfl, hML, hkl, HM, ho, hbel⟩ := hrel
            by_cases hin : i < n
            · have hin' : (i : Int) < (n : Int) := by omega
              obtain ⟨ap, p, rfl, _, hp, _⟩ := rp9.natAt hin
              go_wp2
              go_loopw [10, 11] (fun s10 s11 wr => ∃ (k : Nat) (M : List Int), s11 = .int .i64 k ∧ M.length ≤ i + k ∧ k ≤ cs.length ∧ Hid (MP cs ps i k M) ∧ wr.ownsRow W0.heap.size 3 1 s10 M.length (M.map iv) ∧ Below W0.heap.size W0 wr) (fun _ s11 _ => cs.length - (Go.RowKit.intOf s11).toNat)
              case atStart => exact ⟨k, M, rfl, hML, hkl, HM, ho, hbel⟩
              case round =>
                clear HM ho hML hkl hbel
                obtain ⟨k, M, rfl, hML, hkl, HM, ho, hbel⟩ := hrel
                have c92 := HC2.out _ hbel
                have ci := nat_cell rp9 hbel hp
                by_cases hk : k < cs.length
                · have hk' : (k : Int) < (cs.length : Int) := by omega
                  obtain ⟨ac, x, rfl, _, _, hx, _⟩ := rc9.intAt hk
                  have cx := int_cell rc9 hbel hx
                  by_cases hxp : x < (p : Int)
                  · have HM2 := Lib.hid (HM.out.take HAP.out HRI.out hp hx hxp)
                    go_wp2
                    go_quiet (fail)
                    have ho2 := own_below ho (below_refl_drewN wr nq)
                    have hb2 := below_drewN hbel nq
                    go_wp2_with (at_builtin; refine wpList_app intsRow rfl (.tmp 72) (.tmp 78) rfl rfl rfl (ho2.alloc _) (Rd.fresh _ _ 1 1 _ rfl) ?_ ?_ ?_ ?_ ?_)
                    · intro u hu; simp at hu; subst hu; rfl
                    · unfold maxLen; omega
                    · omega
                    · simp; have := hb2.size; have := hbel.size; omega
                    intro v5 w5 o5 g5 b5
                    have hb5 : Below W0.heap.size W0 w5 := hb2.trans (((Below.refl _ _).alloc hb2.size _).trans b5)
                    have o6 : w5.ownsRow W0.heap.size 3 1 v5 (M ++ [x]).length ((M ++ [x]).map iv) := by
                      rw [List.map_append, List.length_append]
                      exact o5
                    clear o5 g5 b5 ho2 hb2 ho hbel c92 ci cx
                    go_wp2
                    go_roundw
                    case rel => exact ⟨k + 1, M ++ [x], by go_num, by simp <;> omega, by omega, HM2, o6, hb5⟩
                    case measure => simp [Go.RowKit.intOf]; omega
                  · by_cases hxe : x = (p : Int)
                    · subst hxe
                      have hee : ((p : Int) == (p : Int)) = true := by simp
                      go_wp2
                      go_quiet (fail)
                      have ho1 := own_below ho (below_refl_drewN wr nq)
                      have hb1 := below_drewN hbel nq
                      generalize wr.drewN nq = W1 at *
                      clear ho hbel c92 ci cx
                      have hDW := hD9.belowMono hb1 hBW
                      go_wp2
                      go_loopw [13, 14] (fun s13 s14 w' => ∃ (j q0 : Nat) (mo : Bool), j ≤ m ∧ s13 = .bool mo ∧ s14 = .int .i64 j ∧ w' = W1.drewN q0) (fun _ s14 _ => m - (Go.RowKit.intOf s14).toNat)
                      case atStart => exact ⟨0, 0, false, Nat.zero_le _, rfl, rfl, rfl⟩
                      case round =>
                        obtain ⟨j, q0, mo, hj, rfl, rfl, rfl⟩ := hrel
                        by_cases hjm : j < m
                        · have hjm' : (j : Int) < (m : Int) := by omega
                          cases mo
                          · obtain ⟨ad, xb, rfl, _, hcb, _, _⟩ := hDW.byteAt hjm
                            have hxb := xb.toNat_lt
                            generalize xb.toNat = v at *
                            by_cases hv : (v : Int) = (i : Int)
                            · have hve : ((v : Int) == (i : Int)) = true := by simpa using hv
                              clear hv
                              go_wp2
                              go_roundw
                              case rel => exact ⟨j + 1, _, _, by omega, rfl, by go_num, rfl⟩
                              case measure => simp [Go.RowKit.intOf]; omega
                            · have hve : ((v : Int) == (i : Int)) = false := by simpa using hv
                              clear hv
                              go_wp2
                              go_roundw
                              case rel => exact ⟨j + 1, _, _, by omega, rfl, by go_num, rfl⟩
                              case measure => simp [Go.RowKit.intOf]; omega
                          · go_wp2
                            go_roundw
                            case rel => exact ⟨j + 1, _, _, by omega, rfl, by go_num, rfl⟩
                            case measure => simp [Go.RowKit.intOf]; omega
                        · obtain rfl : j = m := by omega
                          clear hjm
                          cases mo
                          · have HM3 := Lib.hid (HM.out.same HAP.out HRI.out HFI.out hp hx)
                            have c92 := HC2.out _ hb1
                            have ci := nat_cell rp9 hb1 hp
                            have cx := int_cell rc9 hb1 hx
                            go_wp2
                            go_quiet (fail)
                            have ho3 := own_below (own_below ho1 (below_refl_drewN W1 q0)) (below_refl_drewN _ nq)
                            have hb3 := below_drewN (below_drewN hb1 q0) nq
                            generalize (W1.drewN q0).drewN nq = W3 at *
                            clear c92 ci cx
                            clear ho1 hb1 hDW
                            have c92 := HC2.out _ hb3
                            have ci := nat_cell rp9 hb3 hp
                            have cx := int_cell rc9 hb3 hx
                            go_wp2_with (at_builtin; refine wpList_app intsRow rfl (.tmp 118) (.tmp 123) rfl rfl rfl (ho3.alloc _) (Rd.fresh _ _ 1 1 _ rfl) ?_ ?_ ?_ ?_ ?_)
                            · intro u hu; simp at hu; subst hu; rfl
                            · unfold maxLen; omega
                            · omega
                            · simp; have := hb3.size; omega
                            intro v5 w5 o5 g5 b5
                            have hb5 : Below W0.heap.size W0 w5 := hb3.trans (((Below.refl _ W3).alloc hb3.size _).trans b5)
                            have o6 : w5.ownsRow W0.heap.size 3 1 v5 (M ++ [(p : Int)]).length ((M ++ [(p : Int)]).map iv) := by
                              rw [List.map_append, List.length_append]
                              exact o5
                            clear c92 ci cx
                            clear o5 g5 b5 ho3 hb3
                            have c92 := HC2.out _ hb5
                            have ci := nat_cell rp9 hb5 hp
                            have cx := int_cell rc9 hb5 hx
                            go_wp2
                            go_quiet (fail)
                            go_wp2
                            go_roundw
                            case rel => exact ⟨i + 1, k + 1, (M ++ [(p : Int)]), by omega, by go_num, by go_num, by first | omega | (simp; omega), by omega, HM3, own_below o6 (below_refl_drewN _ _), below_drewN hb5 _⟩
                            case measure => simp [Go.RowKit.intOf]; omega
                          · have HM3 := Lib.hid (HM.out.same HAP.out HRI.out HFI.out hp hx)
                            have c92 := HC2.out _ hb1
                            have ci := nat_cell rp9 hb1 hp
                            have cx := int_cell rc9 hb1 hx
                            go_wp2
                            go_quiet (fail)
                            have ho3 := own_below (own_below ho1 (below_refl_drewN W1 q0)) (below_refl_drewN _ nq)
                            have hb3 := below_drewN (below_drewN hb1 q0) nq
                            generalize (W1.drewN q0).drewN nq = W3 at *
                            clear c92 ci cx
                            clear ho1 hb1 hDW
                            have c92 := HC2.out _ hb3
                            have ci := nat_cell rp9 hb3 hp
                            have cx := int_cell rc9 hb3 hx
                            go_wp2_with (at_builtin; refine wpList_app intsRow rfl (.tmp 118) (.tmp 123) rfl rfl rfl (ho3.alloc _) (Rd.fresh _ _ 1 1 _ rfl) ?_ ?_ ?_ ?_ ?_)
                            · intro u hu; simp at hu; subst hu; rfl
                            · unfold maxLen; omega
                            · omega
                            · simp; have := hb3.size; omega
                            intro v5 w5 o5 g5 b5
                            have hb5 : Below W0.heap.size W0 w5 := hb3.trans (((Below.refl _ W3).alloc hb3.size _).trans b5)
                            have o6 : w5.ownsRow W0.heap.size 3 1 v5 (M ++ [(p : Int)]).length ((M ++ [(p : Int)]).map iv) := by
                              rw [List.map_append, List.length_append]
                              exact o5
                            clear c92 ci cx
                            clear o5 g5 b5 ho3 hb3
                            have c92 := HC2.out _ hb5
                            have ci := nat_cell rp9 hb5 hp
                            have cx := int_cell rc9 hb5 hx
                            go_wp2
                            go_quiet (fail)
                            go_wp2
                            go_roundw
                            case rel => exact ⟨i + 1, k + 1, (M ++ [(p : Int)]), by omega, by go_num, by go_num, by first | omega | (simp; omega), by omega, HM3, own_below o6 (below_refl_drewN _ _), below_drewN hb5 _⟩
                            case measure => simp [Go.RowKit.intOf]; omega
                    · have hne : (x == (p : Int)) = false := by simpa using hxe
                      have hgt : (p : Int) < x := by omega
                      go_wp2
                      go_quiet (fail)
                      have ho1 := own_below ho (below_refl_drewN wr nq)
                      have hb1 := below_drewN hbel nq
                      generalize wr.drewN nq = W1 at *
                      clear ho hbel c92 ci cx
                      have hDW := hD9.belowMono hb1 hBW
                      go_wp2
                      go_loopw [13, 14] (fun s13 s14 w' => ∃ (j q0 : Nat) (mo : Bool), j ≤ m ∧ s13 = .bool mo ∧ s14 = .int .i64 j ∧ w' = W1.drewN q0) (fun _ s14 _ => m - (Go.RowKit.intOf s14).toNat)
                      case atStart => exact ⟨0, 0, false, Nat.zero_le _, rfl, rfl, rfl⟩
                      case round =>
                        obtain ⟨j, q0, mo, hj, rfl, rfl, rfl⟩ := hrel
                        by_cases hjm : j < m
                        · have hjm' : (j : Int) < (m : Int) := by omega
                          cases mo
                          · obtain ⟨ad, xb, rfl, _, hcb, _, _⟩ := hDW.byteAt hjm
                            have hxb := xb.toNat_lt
                            generalize xb.toNat = v at *
                            by_cases hv : (v : Int) = (i : Int)
                            · have hve : ((v : Int) == (i : Int)) = true := by simpa using hv
                              clear hv
                              go_wp2
                              go_roundw
                              case rel => exact ⟨j + 1, _, _, by omega, rfl, by go_num, rfl⟩
                              case measure => simp [Go.RowKit.intOf]; omega
                            · have hve : ((v : Int) == (i : Int)) = false := by simpa using hv
                              clear hv
                              go_wp2
                              go_roundw
                              case rel => exact ⟨j + 1, _, _, by omega, rfl, by go_num, rfl⟩
                              case measure => simp [Go.RowKit.intOf]; omega
                          · go_wp2
                            go_roundw
                            case rel => exact ⟨j + 1, _, _, by omega, rfl, by go_num, rfl⟩
                            case measure => simp [Go.RowKit.intOf]; omega
                        · obtain rfl : j = m := by omega
                          clear hjm
                          cases mo
                          · have HM3 := Lib.hid (HM.out.pass HRI.out HFI.out hp (drop_gt HAP.out hx hgt))
                            have c92 := HC2.out _ hb1
                            have ci := nat_cell rp9 hb1 hp
                            have cx := int_cell rc9 hb1 hx
                            go_wp2
                            go_quiet (fail)
                            have ho3 := own_below (own_below ho1 (below_refl_drewN W1 q0)) (below_refl_drewN _ nq)
                            have hb3 := below_drewN (below_drewN hb1 q0) nq
                            generalize (W1.drewN q0).drewN nq = W3 at *
                            clear c92 ci cx
                            clear ho1 hb1 hDW
                            have c92 := HC2.out _ hb3
                            have ci := nat_cell rp9 hb3 hp
                            have cx := int_cell rc9 hb3 hx
                            go_wp2
                            go_quiet (fail)
                            go_wp2
                            go_roundw
                            case rel => exact ⟨i + 1, k, M, by omega, rfl, by go_num, by first | omega | (simp; omega), by omega, HM3, own_below ho3 (below_refl_drewN _ _), below_drewN hb3 _⟩
                            case measure => simp [Go.RowKit.intOf]; omega
                          · have HM3 := Lib.hid (HM.out.put HRI.out HFI.out hp (drop_gt HAP.out hx hgt))
                            have c92 := HC2.out _ hb1
                            have ci := nat_cell rp9 hb1 hp
                            have cx := int_cell rc9 hb1 hx
                            go_wp2
                            go_quiet (fail)
                            have ho3 := own_below (own_below ho1 (below_refl_drewN W1 q0)) (below_refl_drewN _ nq)
                            have hb3 := below_drewN (below_drewN hb1 q0) nq
                            generalize (W1.drewN q0).drewN nq = W3 at *
                            clear c92 ci cx
                            clear ho1 hb1 hDW
                            have c92 := HC2.out _ hb3
                            have ci := nat_cell rp9 hb3 hp
                            have cx := int_cell rc9 hb3 hx
                            go_wp2_with (at_builtin; refine wpList_app intsRow rfl (.tmp 118) (.tmp 123) rfl rfl rfl (ho3.alloc _) (Rd.fresh _ _ 1 1 _ rfl) ?_ ?_ ?_ ?_ ?_)
                            · intro u hu; simp at hu; subst hu; rfl
                            · unfold maxLen; omega
                            · omega
                            · simp; have := hb3.size; omega
                            intro v5 w5 o5 g5 b5
                            have hb5 : Below W0.heap.size W0 w5 := hb3.trans (((Below.refl _ W3).alloc hb3.size _).trans b5)
                            have o6 : w5.ownsRow W0.heap.size 3 1 v5 (M ++ [(p : Int)]).length ((M ++ [(p : Int)]).map iv) := by
                              rw [List.map_append, List.length_append]
                              exact o5
                            clear c92 ci cx
                            clear o5 g5 b5 ho3 hb3
                            have c92 := HC2.out _ hb5
                            have ci := nat_cell rp9 hb5 hp
                            have cx := int_cell rc9 hb5 hx
                            go_wp2
                            go_quiet (fail)
                            go_wp2
                            go_roundw
                            case rel => exact ⟨i + 1, k, (M ++ [(p : Int)]), by omega, rfl, by go_num, by first | omega | (simp; omega), by omega, HM3, own_below o6 (below_refl_drewN _ _), below_drewN hb5 _⟩
                            case measure => simp [Go.RowKit.intOf]; omega
                · have hk' : ¬ (k : Int) < (cs.length : Int) := by omega
                  go_wp2
                  go_quiet (fail)
                  have ho1 := own_below ho (below_refl_drewN wr nq)
                  have hb1 := below_drewN hbel nq
                  generalize wr.drewN nq = W1 at *
                  clear ho hbel c92 ci
                  have hDW := hD9.belowMono hb1 hBW
                  go_wp2
                  go_loopw [13, 14] (fun s13 s14 w' => ∃ (j q0 : Nat) (mo : Bool), j ≤ m ∧ s13 = .bool mo ∧ s14 = .int .i64 j ∧ w' = W1.drewN q0) (fun _ s14 _ => m - (Go.RowKit.intOf s14).toNat)
                  case atStart => exact ⟨0, 0, false, Nat.zero_le _, rfl, rfl, rfl⟩
                  case round =>
                    obtain ⟨j, q0, mo, hj, rfl, rfl, rfl⟩ := hrel
                    by_cases hjm : j < m
                    · have hjm' : (j : Int) < (m : Int) := by omega
                      cases mo
                      · obtain ⟨ad, xb, rfl, _, hcb, _, _⟩ := hDW.byteAt hjm
                        have hxb := xb.toNat_lt
                        generalize xb.toNat = v at *
                        by_cases hv : (v : Int) = (i : Int)
                        · have hve : ((v : Int) == (i : Int)) = true := by simpa using hv
                          clear hv
                          go_wp2
                          go_roundw
                          case rel => exact ⟨j + 1, _, _, by omega, rfl, by go_num, rfl⟩
                          case measure => simp [Go.RowKit.intOf]; omega
                        · have hve : ((v : Int) == (i : Int)) = false := by simpa using hv
                          clear hv
                          go_wp2
                          go_roundw
                          case rel => exact ⟨j + 1, _, _, by omega, rfl, by go_num, rfl⟩
                          case measure => simp [Go.RowKit.intOf]; omega
                      · go_wp2
                        go_roundw
                        case rel => exact ⟨j + 1, _, _, by omega, rfl, by go_num, rfl⟩
                        case measure => simp [Go.RowKit.intOf]; omega
                    · obtain rfl : j = m := by omega
                      clear hjm
                      cases mo
                      · have HM3 := Lib.hid (HM.out.pass HRI.out HFI.out hp (drop_none (by omega)))
                        have c92 := HC2.out _ hb1
                        have ci := nat_cell rp9 hb1 hp
                        go_wp2
                        go_quiet (fail)
                        have ho3 := own_below (own_below ho1 (below_refl_drewN W1 q0)) (below_refl_drewN _ nq)
                        have hb3 := below_drewN (below_drewN hb1 q0) nq
                        generalize (W1.drewN q0).drewN nq = W3 at *
                        clear c92 ci
                        clear ho1 hb1 hDW
                        have c92 := HC2.out _ hb3
                        have ci := nat_cell rp9 hb3 hp
                        go_wp2
                        go_quiet (fail)
                        go_wp2
                        go_roundw
                        case rel => exact ⟨i + 1, k, M, by omega, rfl, by go_num, by first | omega | (simp; omega), by omega, HM3, own_below ho3 (below_refl_drewN _ _), below_drewN hb3 _⟩
                        case measure => simp [Go.RowKit.intOf]; omega
                      · have HM3 := Lib.hid (HM.out.put HRI.out HFI.out hp (drop_none (by omega)))
                        have c92 := HC2.out _ hb1
                        have ci := nat_cell rp9 hb1 hp
                        go_wp2
                        go_quiet (fail)
                        have ho3 := own_below (own_below ho1 (below_refl_drewN W1 q0)) (below_refl_drewN _ nq)
                        have hb3 := below_drewN (below_drewN hb1 q0) nq
                        generalize (W1.drewN q0).drewN nq = W3 at *
                        clear c92 ci
                        clear ho1 hb1 hDW
                        have c92 := HC2.out _ hb3
                        have ci := nat_cell rp9 hb3 hp
                        go_wp2_with (at_builtin; refine wpList_app intsRow rfl (.tmp 118) (.tmp 123) rfl rfl rfl (ho3.alloc _) (Rd.fresh _ _ 1 1 _ rfl) ?_ ?_ ?_ ?_ ?_)
                        · intro u hu; simp at hu; subst hu; rfl
                        · unfold maxLen; omega
                        · omega
                        · simp; have := hb3.size; omega
                        intro v5 w5 o5 g5 b5
                        have hb5 : Below W0.heap.size W0 w5 := hb3.trans (((Below.refl _ W3).alloc hb3.size _).trans b5)
                        have o6 : w5.ownsRow W0.heap.size 3 1 v5 (M ++ [(p : Int)]).length ((M ++ [(p : Int)]).map iv) := by
                          rw [List.map_append, List.length_append]
                          exact o5
                        clear c92 ci
                        clear o5 g5 b5 ho3 hb3
                        have c92 := HC2.out _ hb5
                        have ci := nat_cell rp9 hb5 hp
                        go_wp2
                        go_quiet (fail)
                        go_wp2
                        go_roundw
                        case rel => exact ⟨i + 1, k, (M ++ [(p : Int)]), by omega, rfl, by go_num, by first | omega | (simp; omega), by omega, HM3, own_below o6 (below_refl_drewN _ _), below_drewN hb5 _⟩
                        case measure => simp [Go.RowKit.intOf]; omega
            · obtain rfl : n = i := by omega
              clear hin
              have c92 := HC2.out _ hbel
              have k9' := k9.below hbel k9.lt
              have z92 := k9'.frozen 2
              have rA := rd_adv (rc9.belowMono hbel (Nat.le_refl _)) hkl hcc
              have hrl := run_loI wr Ac cs.length cc k hkl
              generalize adv Ac cc k = A7 at *
              go_wp2_with (first | (refine wpList_lo (X := .slice Ac cs.length cc) (Y := .int .i64 (k : Int)) (v := .slice A7 (cs.length - k) (cc - k)) rfl (.tmp 146) (.tmp 147) rfl rfl rfl hrl ?_) | (at_builtin; refine wpList_app intsRow rfl (.tmp 144) (.tmp 148) rfl rfl rfl ho rA ?_ ?_ ?_ ?_ ?_))
              · intro z hz
                obtain ⟨q, _, rfl⟩ := List.mem_map.1 (List.mem_of_mem_drop hz)
                rfl
              · unfold maxLen; omega
              · omega
              · exact hbel.size
              intro v7 w7' o7 g7 b7
              have hb7 : Below W0.heap.size W0 w7' := hbel.trans b7
              have HQ7 := Lib.hid (HMT.out n k M HM.out.m)
              have hqp := HM.out.m.all HAP.out
              obtain ⟨qs, hqs⟩ : ∃ qs, M ++ cs.drop k = qs := ⟨_, rfl⟩
              have hql : qs.length = M.length + (cs.length - k) := by rw [← hqs, List.length_append, List.length_drop]
              rw [← List.map_drop, ← List.map_append, hqs, ← hql] at o7
              rw [hqs] at HQ7 hqp
              obtain ⟨Aq, qc, rfl, -, -, -⟩ := own_form o7
              have HQT := HQ7
              have HQ := Lib.hid (show qs.Pairwise (· ≤ ·) from hqp.1.imp fun h => by omega)
              have hq9 : qs.length ≤ 1000000 := by omega
              clear hql
              have k97 := k9.below hb7 k9.lt
              have R7 := HR9.out.below hb7
              have hK7 : Keep (fun i => i = g9) w7' (w7'.setCell ⟨g9, 2, none⟩ (.slice Aq qs.length qc)) := (Keep.refl (fun i => i = g9) w7').setCell (p := ⟨g9, 2, none⟩) (fun _ => rfl) _
              have hW9 : w.heap.size ≤ W0.heap.size := HR9.out.b.size
              have HDC := Lib.hid (show DC w (w7'.setCell ⟨g9, 2, none⟩ (.slice Aq qs.length qc)) w.heap.size (g5 + 1) g9 A n c u Ad cd b Aq qc qs Ax xc Ay yc X from
                ⟨hK7.bk R7.b2 (fun e => by subst e; exact bk_two k97 R7.b2 (by decide)), hK7.bk R7.b6 (fun e => by subst e; exact bk_two k97 R7.b6 (by decide)), k97.set_ 2 _, hK7.own R7.od (fun j hj e => by subst e; exact own_ne R7.od k97 (by decide) hj), own_mono (hK7.own o7 (fun j hj e => by subst e; exact own_ne o7 k97 (by decide) hj)) hW9,
                  hK7.own R7.ox (fun j hj e => by subst e; exact own_ne R7.ox k97 (by decide) hj), hK7.own R7.oy (fun j hj e => by subst e; exact own_ne R7.oy k97 (by decide) hj), hK7.below' R7.b HG9.out⟩)
              have z97 := k97.frozen 2
              have c97 := k97.cell 2
              clear o7 g7 b7 R7 hK7 k97 hqp HM ho hbel rA c92 k9' z92 hb7
              go_wp2
              generalize hWW : w7'.setCell ⟨g9, 2, none⟩ (.slice Aq qs.length qc) = W8 at *
              clear hWW c97 z97
              try simp only [List.append]
              refine wp_region_phases (S := (DS w (fun W => DC w W w.heap.size (g5 + 1) g9 A n c u Ad cd b Aq qc qs Ax xc Ay yc X) n u L)) (E := (fun W W' => Keep (CE w W) W W')) [7, 8] [(2, Is (.pointer (some ⟨w.heap.size, 0, none⟩))), (4, Is (.bool false)), (6, Is (.pointer (some ⟨g5 + 1, 0, none⟩))), (9, Is (.pointer (some ⟨g9, 0, none⟩)))] [(152, Is (.agg #[.int .i64 252, .slice Ad b.length cd, .slice Aq qs.length qc, .int .i64 0])), (153, FT w b qs), (154, Is (.agg #[.int .i64 255, .slice Ax X.data.length xc, .slice Ay X.cuts.length yc, .int .i64 0])), (155, FD w n u L), (151, FD w n u L), (156, FX w n u L), (157, Is (.int .i64 0)), (16, Is (.int .i64 0))]
                [.op [9] none, .op [152] none, .op [6] none, .op [153, 154] none, .op [155] none, .op [151] none, .op [151] none, .phase 0 [] [], .phase 1 [156] [(0, 15)], .op [157] none] (by as_aux_lemma => kernel_rfl) ?_ ?_ ?_ ?_ ?_ ⟨stable_is _ _, stable_is _ _, stable_is _ _, stable_is _ _, stable_is _ _, ft_stable, stable_is _ _, fd_stable, fd_stable, fx_stable, stable_is _ _, stable_is _ _, trivial⟩ ?_ (HDC.out.below ((Below.refl _ _).drew)) ?_ ?_
              · as_aux_lemma => kernel_rfl
              · as_aux_lemma => kernel_rfl
              · as_aux_lemma => kernel_rfl
              · as_aux_lemma => kernel_rfl
              · as_aux_lemma => kernel_rfl
              · exact ⟨rfl, rfl, rfl, rfl, trivial⟩
              · refine ⟨?_, ?_, ?_, ?_, ?_, ?_, ?_, ?_, ?_, ?_, trivial⟩
                · as_aux_lemma =>
                    intro vals a W hS hL
                    have e9 : a.tmps.getD 9 undef = .pointer (some ⟨g9, 0, none⟩) := hL.1
                    clear hL
                    have kb := (DS.dc hS).b9
                    have f0 := kb.cell 0
                    have f1 := kb.cell 1
                    have f2 := kb.cell 2
                    have f3 := kb.cell 3
                    clear kb
                    go_simp
                    exact ⟨⟨fun d hd => by injection hd with hd; subst hd; rfl, fun h => by cases h⟩, hS, Keep.refl _ _⟩
                · as_aux_lemma =>
                    intro vals a W hS hL
                    have e152 : a.tmps.getD 152 undef = .agg #[.int .i64 252, .slice Ad b.length cd, .slice Aq qs.length qc, .int .i64 0] := hL.1
                    clear hL
                    have hd := DS.dc hS
                    go_simp
                    refine (to_any (r := ⟨252, b, qs, 0⟩) (dc := cd) (cc := qc) (own_form_rd hd.od) (own_form_rd hd.oq) (Nat.le_refl _) (by show b.length ≤ _; omega) (by show qs.length * 8 ≤ _; omega)).mono ?_
                    rintro e W' ⟨dv, cv, rfl, o1, o2, hb⟩
                    obtain ⟨A1, c1, rfl, -, -, -⟩ := own_form o1
                    obtain ⟨A2, c2, rfl, -, -, -⟩ := own_form o2
                    exact ⟨_, rfl, ⟨fun d hd => by injection hd with hd; subst hd; exact ⟨A1, c1, A2, c2, rfl, own_mono o1 hd.b.size, own_mono o2 hd.b.size⟩, fun h => by cases h⟩, DS.call hS (hd.below hb) hb, ce_below hb⟩
                · as_aux_lemma =>
                    intro vals a W hS hL
                    have e6 : a.tmps.getD 6 undef = .pointer (some ⟨g5 + 1, 0, none⟩) := hL.1
                    clear hL
                    have kb := (DS.dc hS).b6
                    have f0 := kb.cell 0
                    have f1 := kb.cell 1
                    have f2 := kb.cell 2
                    have f3 := kb.cell 3
                    clear kb
                    go_simp
                    exact ⟨⟨fun d hd => by injection hd with hd; subst hd; rfl, fun h => by cases h⟩, hS, Keep.refl _ _⟩
                · as_aux_lemma =>
                    intro vals a W hS hL
                    have e153 := hL.1
                    have e154 : a.tmps.getD 154 undef = .agg #[.int .i64 255, .slice Ax X.data.length xc, .slice Ay X.cuts.length yc, .int .i64 0] := hL.2.1
                    clear hL
                    have hd := DS.dc hS
                    obtain ⟨A1, c1, A2, c2, e153, o1, o2⟩ := e153
                    rw [Array.getD_eq_getD_getElem?] at e153
                    have hn1 := own_cap o1
                    have hx1 := own_cap hd.ox
                    have hy1 := own_cap hd.oy
                    have hcall := HDE.out W A1 A2 c1 qs.length c2 qs 0 Ax Ay xc yc hd.b (own_form_rd o1) (cutS_own o2 HQ.out (by omega)) (by omega) HQT.out ⟨own_form_rd hd.ox, own_form_rd hd.oy, ⟨by omega, by omega⟩, ⟨by omega, by omega⟩, by rw [HX1.out]; unfold Fit; omega⟩
                    have HCL := Lib.hid hcall
                    clear hcall hn1 hx1 hy1 o1 o2 hq9 hcc z1 z2 HXB
                    go_simp
                    refine HCL.out.mono ?_
                    rintro e W' ⟨xv, rfl, o3, hb⟩
                    obtain ⟨A3, c3, rfl, -, -, -⟩ := own_form o3
                    rw [HLN.out] at o3 ⊢
                    exact ⟨_, rfl, ⟨fun d hd => by injection hd with hd; subst hd; exact ⟨A3, c3, rfl, own_mono o3 hd.b.size⟩, fun h => by cases h⟩, DS.call hS (hd.below hb) hb, ce_below hb⟩
                · as_aux_lemma =>
                    intro vals a W hS hL
                    have e155 := hL.1
                    clear hL
                    obtain ⟨A1, c1, e155, h5⟩ := e155
                    rw [Array.getD_eq_getD_getElem?] at e155
                    go_simp
                    exact ⟨⟨fun d hd => by injection hd with hd; subst hd; exact ⟨A1, c1, rfl, h5⟩, fun h => by cases h⟩, hS, Keep.refl _ _⟩
                · as_aux_lemma =>
                    intro vals a W hS hL
                    have e151 := hL.1
                    clear hL
                    obtain ⟨A1, c1, e151, h5⟩ := e151
                    rw [Array.getD_eq_getD_getElem?] at e151
                    go_simp
                    exact ⟨⟨fun d hd => by injection hd with hd; subst hd; exact ⟨A1, c1, rfl, h5⟩, fun h => by cases h⟩, hS, Keep.refl _ _⟩
                · as_aux_lemma =>
                    intro vals a W hS hL
                    have e151 := hL.1
                    clear hL
                    obtain ⟨A1, c1, e151, h5⟩ := e151
                    rw [Array.getD_eq_getD_getElem?] at e151
                    go_simp
                    exact ⟨⟨fun d hd => by injection hd with hd; subst hd; rfl, fun h => by cases h⟩, hS, Keep.refl _ _⟩
                · as_aux_lemma =>
                    intro a W vals hv hS hL hp
                    clear hL
                    match vals, hv, hS with
                    | [], _, hS =>
                      have hd : DC w W w.heap.size (g5 + 1) g9 A n c u Ad cd b Aq qc qs Ax xc Ay yc X := hS
                      have hz := hd.b.size
                      have hF := hd.below (bx1' W (.cells #[.slice none 0 0, .int .i64 0] 26))
                      go_simp
                      exact ⟨⟨hF, _, rfl, hz, Bk.new _ _ _⟩, trivial, ce_below (bx1' W _)⟩
                · as_aux_lemma =>
                    intro a W vals hv hS hL hp
                    have e156 := hL.1
                    clear hL
                    match vals, hv, hS, hp with
                    | [v], _, hS, hp =>
                      obtain ⟨hd, g, rfl, hg, hk⟩ := hS
                      have e15 := hp.1 (by simp)
                      simp only [List.getElem?_cons_zero, Option.some.injEq] at e15
                      obtain ⟨A1, c1, e156, h6⟩ := e156
                      rw [Array.getD_eq_getD_getElem?] at e156 e15
                      have e15' := e15.symm
                      clear e15
                      have z0 := hk.frozen 0
                      have z1 := hk.frozen 1
                      have q0 := hk.cell 0
                      have q1 := hk.cell 1
                      have hK : Keep (CE w W) W ((W.setCell ⟨g, 0, none⟩ (.slice A1 n c1)).setCell ⟨g, 1, none⟩ (.int .i64 u)) := ((Keep.refl (CE w W) W).setCell (p := ⟨g, 0, none⟩) (fun _ => ⟨hg, _, hk⟩) _).setCell (p := ⟨g, 1, none⟩) (fun _ => ⟨hg, _, hk⟩) _
                      have hk2 : Bk ((W.setCell ⟨g, 0, none⟩ (.slice A1 n c1)).setCell ⟨g, 1, none⟩ (.int .i64 u)) g 26 #[.slice A1 n c1, .int .i64 u] := (hk.set_ 0 (.slice A1 n c1)).set_ 1 (.int .i64 u)
                      have hF : DS w (fun W => DC w W w.heap.size (g5 + 1) g9 A n c u Ad cd b Aq qc qs Ax xc Ay yc X) n u L [.pointer (some ⟨g, 0, none⟩), undef] _ := ⟨hd.keep hK, g, A1, c1, rfl, hg, hk2, ce_own hK h6 (by decide)⟩
                      clear hk hd h6 hk2
                      go_simp
                      exact ⟨hF, trivial, hK⟩
                · as_aux_lemma =>
                    intro vals a W hS hL
                    have e157 : a.tmps.getD 157 undef = .int .i64 0 := hL.1
                    clear hL
                    go_simp
                    exact ⟨⟨fun d hd => by injection hd with hd; subst hd; rfl, fun h => by cases h⟩, hS, Keep.refl _ _⟩
              · intro a W' vals hd hsz hT hF hv hP hS
                obtain ⟨v0, v1, rfl⟩ : ∃ v0 v1, vals = [v0, v1] := by
                  match vals, hv with
                  | [x, y], _ => exact ⟨x, y, rfl⟩
                obtain ⟨hdc, g15, AT, cT, hg0, hg, hk15, hT15⟩ : DC w W' w.heap.size (g5 + 1) g9 A n c u Ad cd b Aq qc qs Ax xc Ay yc X ∧ ∃ g A c, v0 = .pointer (some ⟨g, 0, none⟩) ∧ w.heap.size ≤ g ∧ Bk W' g 26 #[.slice A n c, .int .i64 u] ∧ W'.ownsRow w.heap.size 9 1 (.slice A n c) n (L.map tv) := hS
                subst hg0
                have e15 : a.tmps.getD 15 undef = .pointer (some ⟨g15, 0, none⟩) := by
                  have := hP 0 7 _ 15 rfl (by simp) rfl rfl
                  simpa using this.symm
                have e2 : a.tmps.getD 2 undef = .pointer (some ⟨w.heap.size, 0, none⟩) := hT 2 (by simp)
                have e4 : a.tmps.getD 4 undef = .bool false := hT 4 (by simp)
                have e16 : a.tmps.getD 16 undef = .int .i64 0 := hT 16 (by simp)
                have HTS := Lib.hid (show TS w W' g15 w.heap.size AT cT A c L u n from ⟨⟨hk15, own_form_rd hT15⟩, ⟨hdc.b2, (HIN.out W' hdc.b).mono hdc.b.size⟩, hdc.b⟩)
                clear hT hF hP hk15 hT15 hdc hg HDC
                rw [act_lit 166 a hd hsz]
                simp only [List.range, List.range.loop, List.map, e2, e4, e15, e16]
                clear e2 e4 e15 e16 hsz hd
                generalize a.tmps.getD 0 undef = y0
                generalize a.tmps.getD 1 undef = y1
                generalize a.tmps.getD 3 undef = y3
                generalize a.tmps.getD 5 undef = y5
                generalize a.tmps.getD 6 undef = y6
                generalize a.tmps.getD 7 undef = y7
                generalize a.tmps.getD 8 undef = y8
                generalize a.tmps.getD 9 undef = y9
                generalize a.tmps.getD 10 undef = y10
                generalize a.tmps.getD 11 undef = y11
                generalize a.tmps.getD 12 undef = y12
                generalize a.tmps.getD 13 undef = y13
                generalize a.tmps.getD 14 undef = y14
                generalize a.tmps.getD 17 undef = y17
                generalize a.tmps.getD 18 undef = y18
                generalize a.tmps.getD 19 undef = y19
                generalize a.tmps.getD 20 undef = y20
                generalize a.tmps.getD 21 undef = y21
                generalize a.tmps.getD 22 undef = y22
                generalize a.tmps.getD 23 undef = y23
                generalize a.tmps.getD 24 undef = y24
                generalize a.tmps.getD 25 undef = y25
                generalize a.tmps.getD 26 undef = y26
                generalize a.tmps.getD 27 undef = y27
                generalize a.tmps.getD 28 undef = y28
                generalize a.tmps.getD 29 undef = y29
                generalize a.tmps.getD 30 undef = y30
                generalize a.tmps.getD 31 undef = y31
                generalize a.tmps.getD 32 undef = y32
                generalize a.tmps.getD 33 undef = y33
                generalize a.tmps.getD 34 undef = y34
                generalize a.tmps.getD 35 undef = y35
                generalize a.tmps.getD 36 undef = y36
                generalize a.tmps.getD 37 undef = y37
                generalize a.tmps.getD 38 undef = y38
                generalize a.tmps.getD 39 undef = y39
                generalize a.tmps.getD 40 undef = y40
                generalize a.tmps.getD 41 undef = y41
                generalize a.tmps.getD 42 undef = y42
                generalize a.tmps.getD 43 undef = y43
                generalize a.tmps.getD 44 undef = y44
                generalize a.tmps.getD 45 undef = y45
                generalize a.tmps.getD 46 undef = y46
                generalize a.tmps.getD 47 undef = y47
                generalize a.tmps.getD 48 undef = y48
                generalize a.tmps.getD 49 undef = y49
                generalize a.tmps.getD 50 undef = y50
                generalize a.tmps.getD 51 undef = y51
                generalize a.tmps.getD 52 undef = y52
                generalize a.tmps.getD 53 undef = y53
                generalize a.tmps.getD 54 undef = y54
                generalize a.tmps.getD 55 undef = y55
                generalize a.tmps.getD 56 undef = y56
                generalize a.tmps.getD 57 undef = y57
                generalize a.tmps.getD 58 undef = y58
                generalize a.tmps.getD 59 undef = y59
                generalize a.tmps.getD 60 undef = y60
                generalize a.tmps.getD 61 undef = y61
                generalize a.tmps.getD 62 undef = y62
                generalize a.tmps.getD 63 undef = y63
                generalize a.tmps.getD 64 undef = y64
                generalize a.tmps.getD 65 undef = y65
                generalize a.tmps.getD 66 undef = y66
                generalize a.tmps.getD 67 undef = y67
                generalize a.tmps.getD 68 undef = y68
                generalize a.tmps.getD 69 undef = y69
                generalize a.tmps.getD 70 undef = y70
                generalize a.tmps.getD 71 undef = y71
                generalize a.tmps.getD 72 undef = y72
                generalize a.tmps.getD 73 undef = y73
                generalize a.tmps.getD 74 undef = y74
                generalize a.tmps.getD 75 undef = y75
                generalize a.tmps.getD 76 undef = y76
                generalize a.tmps.getD 77 undef = y77
                generalize a.tmps.getD 78 undef = y78
                generalize a.tmps.getD 79 undef = y79
                generalize a.tmps.getD 80 undef = y80
                generalize a.tmps.getD 81 undef = y81
                generalize a.tmps.getD 82 undef = y82
                generalize a.tmps.getD 83 undef = y83
                generalize a.tmps.getD 84 undef = y84
                generalize a.tmps.getD 85 undef = y85
                generalize a.tmps.getD 86 undef = y86
                generalize a.tmps.getD 87 undef = y87
                generalize a.tmps.getD 88 undef = y88
                generalize a.tmps.getD 89 undef = y89
                generalize a.tmps.getD 90 undef = y90
                generalize a.tmps.getD 91 undef = y91
                generalize a.tmps.getD 92 undef = y92
                generalize a.tmps.getD 93 undef = y93
                generalize a.tmps.getD 94 undef = y94
                generalize a.tmps.getD 95 undef = y95
                generalize a.tmps.getD 96 undef = y96
                generalize a.tmps.getD 97 undef = y97
                generalize a.tmps.getD 98 undef = y98
                generalize a.tmps.getD 99 undef = y99
                generalize a.tmps.getD 100 undef = y100
                generalize a.tmps.getD 101 undef = y101
                generalize a.tmps.getD 102 undef = y102
                generalize a.tmps.getD 103 undef = y103
                generalize a.tmps.getD 104 undef = y104
                generalize a.tmps.getD 105 undef = y105
                generalize a.tmps.getD 106 undef = y106
                generalize a.tmps.getD 107 undef = y107
                generalize a.tmps.getD 108 undef = y108
                generalize a.tmps.getD 109 undef = y109
                generalize a.tmps.getD 110 undef = y110
                generalize a.tmps.getD 111 undef = y111
                generalize a.tmps.getD 112 undef = y112
                generalize a.tmps.getD 113 undef = y113
                generalize a.tmps.getD 114 undef = y114
                generalize a.tmps.getD 115 undef = y115
                generalize a.tmps.getD 116 undef = y116
                generalize a.tmps.getD 117 undef = y117
                generalize a.tmps.getD 118 undef = y118
                generalize a.tmps.getD 119 undef = y119
                generalize a.tmps.getD 120 undef = y120
                generalize a.tmps.getD 121 undef = y121
                generalize a.tmps.getD 122 undef = y122
                generalize a.tmps.getD 123 undef = y123
                generalize a.tmps.getD 124 undef = y124
                generalize a.tmps.getD 125 undef = y125
                generalize a.tmps.getD 126 undef = y126
                generalize a.tmps.getD 127 undef = y127
                generalize a.tmps.getD 128 undef = y128
                generalize a.tmps.getD 129 undef = y129
                generalize a.tmps.getD 130 undef = y130
                generalize a.tmps.getD 131 undef = y131
                generalize a.tmps.getD 132 undef = y132
                generalize a.tmps.getD 133 undef = y133
                generalize a.tmps.getD 134 undef = y134
                generalize a.tmps.getD 135 undef = y135
                generalize a.tmps.getD 136 undef = y136
                generalize a.tmps.getD 137 undef = y137
                generalize a.tmps.getD 138 undef = y138
                generalize a.tmps.getD 139 undef = y139
                generalize a.tmps.getD 140 undef = y140
                generalize a.tmps.getD 141 undef = y141
                generalize a.tmps.getD 142 undef = y142
                generalize a.tmps.getD 143 undef = y143
                generalize a.tmps.getD 144 undef = y144
                generalize a.tmps.getD 145 undef = y145
                generalize a.tmps.getD 146 undef = y146
                generalize a.tmps.getD 147 undef = y147
                generalize a.tmps.getD 148 undef = y148
                generalize a.tmps.getD 149 undef = y149
                generalize a.tmps.getD 150 undef = y150
                generalize a.tmps.getD 151 undef = y151
                generalize a.tmps.getD 152 undef = y152
                generalize a.tmps.getD 153 undef = y153
                generalize a.tmps.getD 154 undef = y154
                generalize a.tmps.getD 155 undef = y155
                generalize a.tmps.getD 156 undef = y156
                generalize a.tmps.getD 157 undef = y157
                generalize a.tmps.getD 158 undef = y158
                generalize a.tmps.getD 159 undef = y159
                generalize a.tmps.getD 160 undef = y160
                generalize a.tmps.getD 161 undef = y161
                generalize a.tmps.getD 162 undef = y162
                generalize a.tmps.getD 163 undef = y163
                generalize a.tmps.getD 164 undef = y164
                generalize a.tmps.getD 165 undef = y165
                go_wp2_with fail
                try simp only [List.append]
                refine wp_region_phases (S := (fun _ W => TS w W g15 w.heap.size AT cT A c L u n)) (E := (fun W W' => Below W.heap.size W W')) [] [(2, Is (.pointer (some ⟨w.heap.size, 0, none⟩))), (15, Is (.pointer (some ⟨g15, 0, none⟩))), (16, Is (.int .i64 0))] [(158, Is (.int .i64 0)), (159, Is (.bool true)), (160, Is (.bool true)), (161, Is (.agg #[.slice AT n cT, .int .i64 u])), (162, Is (.agg #[.slice AT n cT, .int .i64 u])), (163, Is (.agg #[.slice A n c, .int .i64 u])), (164, Is (.bool true)), (165, Is (.bool true)), (4, Is (.bool true))]
                  [.op [16] none, .op [158] none, .op [159] none, .op [15, 160] (some (160, true)), .op [161, 160] (some (160, true)), .op [2, 160] (some (160, true)), .op [162, 163, 160] (some (160, true)), .op [160, 164] none, .op [165] none] (by as_aux_lemma => kernel_rfl) ?_ ?_ ?_ ?_ ?_ ⟨stable_is _ _, stable_is _ _, stable_is _ _, stable_is _ _, stable_is _ _, stable_is _ _, stable_is _ _, stable_is _ _, stable_is _ _, stable_is _ _, stable_is _ _, stable_is _ _, trivial⟩ ?_ (HTS.out.below ((Below.refl _ _).drew)) ?_ ?_
                · as_aux_lemma => kernel_rfl
                · as_aux_lemma => kernel_rfl
                · as_aux_lemma => kernel_rfl
                · as_aux_lemma => kernel_rfl
                · as_aux_lemma => kernel_rfl
                · exact ⟨rfl, rfl, rfl, trivial⟩
                · refine ⟨?_, ?_, ?_, ?_, ?_, ?_, ?_, ?_, ?_, trivial⟩
                  · as_aux_lemma =>
                      intro vals a W hS hL
                      have e16 : a.tmps.getD 16 undef = .int .i64 0 := hL.1
                      clear hL
                      go_simp
                      exact ⟨⟨fun d hd => by injection hd with hd; subst hd; rfl, fun h => by cases h⟩, hS, Below.refl _ _⟩
                  · as_aux_lemma =>
                      intro vals a W hS hL
                      have e158 : a.tmps.getD 158 undef = .int .i64 0 := hL.1
                      clear hL
                      go_simp
                      exact ⟨⟨fun d hd => by injection hd with hd; subst hd; rfl, fun h => by cases h⟩, hS, Below.refl _ _⟩
                  · as_aux_lemma =>
                      intro vals a W hS hL
                      have e159 : a.tmps.getD 159 undef = .bool true := hL.1
                      clear hL
                      go_simp
                      exact ⟨⟨fun d hd => by injection hd with hd; subst hd; rfl, fun h => by cases h⟩, hS, Below.refl _ _⟩
                  · as_aux_lemma =>
                      intro vals a W hS hL
                      have e15 : a.tmps.getD 15 undef = .pointer (some ⟨g15, 0, none⟩) := hL.1
                      have e160 : a.tmps.getD 160 undef = .bool true := hL.2.1
                      clear hL
                      refine ⟨true, e160, ?_⟩
                      rw [if_pos rfl]
                      have kb := hS.t.k
                      have f0 := kb.cell 0
                      have f1 := kb.cell 1
                      clear kb
                      go_simp
                      exact ⟨⟨fun d hd => by injection hd with hd; subst hd; rfl, fun h => by cases h⟩, hS, Below.refl _ _⟩
                  · as_aux_lemma =>
                      intro vals a W hS hL
                      have e161 : a.tmps.getD 161 undef = .agg #[.slice AT n cT, .int .i64 u] := hL.1
                      have e160 : a.tmps.getD 160 undef = .bool true := hL.2.1
                      clear hL
                      refine ⟨true, e160, ?_⟩
                      rw [if_pos rfl]
                      go_simp
                      refine of_any.mono ?_
                      rintro e W' ⟨rfl, hb⟩
                      exact ⟨_, rfl, ⟨fun d hd => by injection hd with hd; subst hd; rfl, fun h => by cases h⟩, hS.below hb, hb⟩
                  · as_aux_lemma =>
                      intro vals a W hS hL
                      have e2 : a.tmps.getD 2 undef = .pointer (some ⟨w.heap.size, 0, none⟩) := hL.1
                      have e160 : a.tmps.getD 160 undef = .bool true := hL.2.1
                      clear hL
                      refine ⟨true, e160, ?_⟩
                      rw [if_pos rfl]
                      have kb := hS.s.k
                      have f0 := kb.cell 0
                      have f1 := kb.cell 1
                      clear kb
                      go_simp
                      exact ⟨⟨fun d hd => by injection hd with hd; subst hd; rfl, fun h => by cases h⟩, hS, Below.refl _ _⟩
                  · as_aux_lemma =>
                      intro vals a W hS hL
                      have e162 : a.tmps.getD 162 undef = .agg #[.slice AT n cT, .int .i64 u] := hL.1
                      have e163 : a.tmps.getD 163 undef = .agg #[.slice A n c, .int .i64 u] := hL.2.1
                      have e160 : a.tmps.getD 160 undef = .bool true := hL.2.2.1
                      clear hL
                      refine ⟨true, e160, ?_⟩
                      rw [if_pos rfl]
                      go_simp
                      refine (sameTab_any (c := cT) (c' := c) (u := u) (u' := u) hS.t.r hS.s.r (Nat.le_refl _) (by omega) (by omega)).mono ?_
                      rw [decide_eq_true rfl, decide_eq_true rfl]
                      rintro e W' ⟨rfl, hb⟩
                      exact ⟨_, rfl, ⟨fun d hd => by injection hd with hd; subst hd; rfl, fun h => by cases h⟩, hS.below hb, hb⟩
                  · as_aux_lemma =>
                      intro vals a W hS hL
                      have e160 : a.tmps.getD 160 undef = .bool true := hL.1
                      have e164 : a.tmps.getD 164 undef = .bool true := hL.2.1
                      clear hL
                      go_simp
                      exact ⟨⟨fun d hd => by injection hd with hd; subst hd; rfl, fun h => by cases h⟩, hS, Below.refl _ _⟩
                  · as_aux_lemma =>
                      intro vals a W hS hL
                      have e165 : a.tmps.getD 165 undef = .bool true := hL.1
                      clear hL
                      go_simp
                      exact ⟨⟨fun d hd => by injection hd with hd; subst hd; rfl, fun h => by cases h⟩, hS, Below.refl _ _⟩
                · intro a W' vals hd hsz hT hF hv hP hS
                  have e4 : a.tmps.getD 4 undef = .bool true := hT 4 (by simp)
                  have hbF := hS.b
                  clear hT hF hv hP hS HTS
                  go_wp2
                  refine bodyPost_ret (v := .bool true) ?_ hd ⟨rfl, hbF⟩
                  rw [Array.getD_eq_getD_getElem?] at e4
                  simp [results, Tryd.results4, go_sem, e4]
        · have hn4 : ((4 : Int) != 0) = true := rfl
          go_wp2_with fail
          refine (encode_no (c := c3) (HVV.out.below hb3) r3 (Nat.le_refl _) (by omega) HSL.out h4).mono ?_
          rintro e w4 ⟨A1, n1, c1, A2, n2, c2, A3, n3, c3, A4, n4, c4, t1, t2, rfl, b4⟩
          have k4 := k3.below b4 k3.lt
          have hb4 := hb3.trans (b4.mono hb3.size)
          clear r3 k3 b4
          have hW5 := (bx1' w4 (.cells #[.int .i64 t1, .slice A1 n1 c1, .slice A2 n2 c2, .int .i64 0] 41)).trans ((bx1' (w4.alloc (.cells #[.int .i64 t1, .slice A1 n1 c1, .slice A2 n2 c2, .int .i64 0] 41)) (.cells #[.int .i64 t2, .slice A3 n3 c3, .slice A4 n4 c4, .int .i64 0] 41)).mono (by simp))
          have k5 := k4.below hW5 k4.lt
          have hb5 := hb4.trans (hW5.mono hb4.size)
          have c10 := k5.cell 0
          have c11 := k5.cell 1
          clear k4 hW5 hb4
          go_wp2_with fail
          generalize hWW : (w4.alloc (.cells #[.int .i64 t1, .slice A1 n1 c1, .slice A2 n2 c2, .int .i64 0] 41)).alloc (.cells #[.int .i64 t2, .slice A3 n3 c3, .slice A4 n4 c4, .int .i64 0] 41) = w5 at *
          clear hWW
          refine (toTab_any (c := c) (u := u) (h.belowMono hb5 hB) (Nat.le_trans hB hb5.size) (by omega)).mono ?_
          rintro e w6 ⟨A6, c6, rfl, r6, b6⟩
          have hb6 := hb5.trans (b6.mono hb5.size)
          clear c10 c11 k5 b6 hb5
          go_wp2_with fail
          refine (places_any (u := u) (c := c6) (HVV.out.below hb6) r6 (Nat.le_refl _) (by omega) HSL.out).mono ?_
          rintro e w7 ⟨pv, rfl, -, b7⟩
          have hb7 := hb6.trans (b7.mono hb6.size)
          clear b7 hb6 r6
          go_wp2
          go_ret
          exact ⟨rfl, hb7⟩
      · have hb0 : (ckTab L u != 0) = true := by simpa using h0
        clear h0
        generalize ckTab L u = E at *
        go_wp2_with fail
        refine HFW.mono ?_
        rintro e w2 ⟨rfl, rfl⟩
        clear HFW
        go_wp2_with fail
        refine HCK.mono ?_
        rintro e w2 ⟨rfl, b2⟩
        have hb2 := hb1.trans (b2.mono hb1.size)
        go_wp2
        go_ret
        exact ⟨rfl, hb2⟩
end Go.Proofs.YtllcecnkbndokaaDoor
