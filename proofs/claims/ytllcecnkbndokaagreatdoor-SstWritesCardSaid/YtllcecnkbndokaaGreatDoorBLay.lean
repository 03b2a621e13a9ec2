/- What is laid out by the reference, in memory: bytes, cuts, places, a text's units: rows of their own, apart. No condition; no model's run. -/
/- cashbookref7.Narrow by its contract. Condition: the text is one that the decoder takes, and not too long. -/
/- cashbookref7.layout by its contract: the table's bytes, its cuts, where each text begins. Conditions: the texts read as such; the table is one that Check takes. -/
import Derived.Test.YtllcecnkbndokaaGreatDoorLay
import Derived.Test.YtllcecnkbndokaaGreatDoorBUnits
import Derived.Test.YtllcecnkbndokaaGreatDoorLay2
import Derived.Test.YtllcecnkbndokaaGreatDoorBRec
import Derived.Test.YtllcecnkbndokaaGreatDoorPhase
import Derived.Test.YtllcecnkbndokaaGreatDoorLit
namespace Go.Proofs.YtllcecnkbndokaaGreatDoor
open Go.RowKit Go.Lib

structure L4 (W : World) (base : Nat) (S : LS) (ps : List Nat) (us : List Int) (d c p u : Value) : Prop where
  od : W.ownsRow base 5 1 d S.b.length (S.b.map bv)
  oc : W.ownsRow base 3 1 c S.cs.length (S.cs.map iv)
  op : W.ownsRow base 3 1 p ps.length (ps.map nv)
  ou : W.ownsRow base 3 1 u us.length (us.map ivr)
  cp : ∀ i, c.ownBlock = some i → p.ownBlock ≠ some i
  cu : ∀ i, c.ownBlock = some i → u.ownBlock ≠ some i
  pu : ∀ i, p.ownBlock = some i → u.ownBlock ≠ some i
section
variable {W W' : World} {base : Nat} {S : LS} {ps : List Nat} {us : List Int} {d c p u d' c' p' : Value} {o : Obj}
theorem L4.below (h : L4 W base S ps us d c p u) (hb : Below W.heap.size W W') : L4 W' base S ps us d c p u :=
  ⟨own_below h.od hb, own_below h.oc hb, own_below h.op hb, own_below h.ou hb, h.cp, h.cu, h.pu⟩
theorem L4.data {t : List UInt8} (h : L4 W base S ps us d c p u) (hg : Grew (W.alloc o) W' d d') (ho : W'.ownsRow base 5 1 d' (S.b.length + t.length) (S.b.map bv ++ t.map bv)) : L4 W' base ⟨S.b ++ t, S.cs, S.bg⟩ ps us d' c p u :=
  ⟨by rw [List.length_append, List.map_append]; exact ho, grew_own hg h.od h.oc (by decide), grew_own hg h.od h.op (by decide), grew_own hg h.od h.ou (by decide), h.cp, h.cu, h.pu⟩
theorem grew_off {v v' z : Value} {n : Nat} {e : TypeId} {xs : List Value} (hg : Grew (W.alloc o) W' v v') (hz : W.ownsRow base e 1 z n xs) (h : ∀ i, v.ownBlock = some i → z.ownBlock ≠ some i) : ∀ i, v'.ownBlock = some i → z.ownBlock ≠ some i := by
  intro i hi
  rcases hg.lies with e | ⟨g, e, hgs⟩
  · exact h i (by rw [← e, hi])
  · rw [e] at hi
    injection hi with hi
    subst hi
    intro hzi
    have := own_blk hz _ hzi
    simp at hgs
    omega
theorem L4.cut {x : Int} {q : Nat} (h : L4 W base S ps us d c p u) (hg : Grew (W.alloc o) W' c c') (ho : W'.ownsRow base 3 1 c' (S.cs.length + 1) (S.cs.map iv ++ [iv x])) : L4 W' base ⟨S.b, S.cs ++ [x], q⟩ ps us d c' p u :=
  ⟨grew_own hg h.oc h.od (by decide), by rw [List.length_append, List.map_append]; exact ho, own_grown (h.op.alloc o) hg.grown (fun i hi e => h.cp i e hi), own_grown (h.ou.alloc o) hg.grown (fun i hi e => h.cu i e hi), grew_off hg h.op h.cp, grew_off hg h.ou h.cu, h.pu⟩
theorem L4.place {x : Nat} (h : L4 W base S ps us d c p u) (hg : Grew (W.alloc o) W' p p') (ho : W'.ownsRow base 3 1 p' (ps.length + 1) (ps.map nv ++ [nv x])) : L4 W' base S (ps ++ [x]) us d c p' u :=
  ⟨grew_own hg h.op h.od (by decide), own_grown (h.oc.alloc o) hg.grown (fun i hi e => h.cp i hi e), by rw [List.length_append, List.map_append]; exact ho, own_grown (h.ou.alloc o) hg.grown (fun i hi e => h.pu i e hi), fun i hi e => grew_off hg h.oc (fun j hj e => h.cp j e hj) i e hi, h.cu, grew_off hg h.ou h.pu⟩
theorem L4.units {W1 : World} {n : Nat} (h : L4 W base S ps us d c p u) (hb : Below W.heap.size W W') {u' : Value} {us' : List Int} (ho : W'.ownsRow W1.heap.size 3 1 u' n (us'.map ivr)) (h1 : W.heap.size ≤ W1.heap.size) (hB : base ≤ W.heap.size) : L4 W' base S ps us' d c p u' := by
  have hn : n = us'.length := by
    have := ho.1
    simp at this
    omega
  subst hn
  refine ⟨own_below h.od hb, own_below h.oc hb, own_below h.op hb, own_mono ho (by omega), h.cp, fun i hi hu => ?_, fun i hi hu => ?_⟩
  · have := own_blk h.oc _ hi
    have := (ho.lt _ hu).1
    omega
  · have := own_blk h.op _ hi
    have := (ho.lt _ hu).1
    omega
theorem L4.none (h : L4 W base S ps us d c p u) : L4 W base S ps [] d c p (.slice none 0 0) :=
  ⟨h.od, h.oc, h.op, World.ownsRow_nil _ _ _ _, h.cp, fun i hi hu => by simp [Value.ownBlock] at hu, fun i hi hu => by simp [Value.ownBlock] at hu⟩
end
theorem icell {w : World} {B n i : Nat} {A : Option Addr} {l : List Int} (h : Rd w B 1 A n (l.map ivr)) (hi : i < n) : ∃ a x, A = some a ∧ l[i]? = some x ∧ w.cell? (a.add i) = some (.int .i64 x) := by
  obtain ⟨a, u, ha, hb, hu, hc⟩ := h.cell hi
  have hl : i < l.length := by have := h.len; simp at this; omega
  rw [List.getElem?_map, List.getElem?_eq_getElem hl] at hu
  exact ⟨a, l[i], ha, List.getElem?_eq_getElem hl, by rw [hc]; simpa [ivr] using hu.symm⟩
theorem head_vals {N fl : Nat} (h : N ≤ 1000) (hf : fl ≤ 1) : ([by8 ((N : Nat) : Int), by8 (((N : Nat) : Int) / 256), UInt8.ofNat fl] : List UInt8).map bv = [.int .u8 ((N : Int) % 256), .int .u8 ((N : Int) / 256), .int .u8 fl] := by
  have e1 : ((N : Int) / 256) % 256 = (N : Int) / 256 := by omega
  have e2 : ((fl : Nat) : Int) % 256 = fl := by omega
  rw [List.map_cons, List.map_cons, List.map_cons, List.map_nil, bv_by8, bv_by8, bv_ofNat, e1, e2]
end Go.Proofs.YtllcecnkbndokaaGreatDoor
namespace Go.Proofs.YtllcecnkbndokaaGreatDoor
open Go.RowKit Go.Lib

set_option maxHeartbeats 8000000 in
set_option maxRecDepth 100000 in
theorem bNarrow_any {w : World} (s : ByteArray) (hs : s.size ≤ 10000000) (hv : validD s.data.toList = true) :
    Calls Tryz.prog 48 #[.string s] w fun e w' => e = .returned (.bool (narB s.data.toList)) ∧ Below w.heap.size w w' := by
  have HR := Lib.hid (bRunes_any (w := w) s (by omega))
  obtain ⟨l, hl⟩ : ∃ l, s.data.toList = l := ⟨_, rfl⟩
  have hll : l.length ≤ 10000000 := by rw [← hl]; simpa using hs
  rw [hl] at HR hv
  rw [hl]
  clear hl
  have hln := rns_len2 l
  have HN : Hid (narB l = (rns l).all fun r => decide (r < 256)) := Lib.hid rfl
  generalize narB l = b at *
  go_enter Tryz.func48, Tryz.ntmps48
  go_wp2_with fail
  refine HR.out.mono ?_
  rintro e w1 ⟨hg, hb1⟩
  clear HR
  rcases hg with ⟨-, v, n, rfl, ho⟩ | ⟨h1, -⟩
  · obtain ⟨A1, c1, rfl, hnc, -, hr⟩ := own_form ho
    have hn1 : (rns l).length = n := by have := hr.len; simp at this; exact this
    clear ho hv
    generalize rns l = rs at *
    go_wp2
    go_loopw [4, 5] (fun s4 s5 wr => ∃ (i : Nat) (o : Bool), i ≤ n ∧ s4 = .bool o ∧ s5 = .int .i64 i ∧ wr = w1 ∧ Hid ((o && (rs.drop i).all fun r => decide (r < 256)) = b)) (fun _ s5 _ => n - (Go.RowKit.intOf s5).toNat)
    case atStart => exact ⟨0, true, Nat.zero_le _, rfl, rfl, rfl, Lib.hid (by rw [HN.out]; simp)⟩
    case round =>
      obtain ⟨i, o, hi, rfl, rfl, rfl, HE⟩ := hrel
      by_cases hin : i < n
      · have hin' : (i : Int) < (n : Int) := by omega
        obtain ⟨a, u, rfl, hab, hu, hcell⟩ := hr.cell hin
        obtain ⟨r, hri, rfl⟩ : ∃ r, rs[i]? = some r ∧ u = ivr r := by
          rw [List.getElem?_map, List.getElem?_eq_getElem (by omega)] at hu
          exact ⟨_, List.getElem?_eq_getElem (by omega), by simpa using hu.symm⟩
        have HD := Lib.hid (show rs.drop i = r :: rs.drop (i + 1) by
          rw [List.drop_eq_getElem_cons (by omega)]
          rw [List.getElem?_eq_getElem (by omega)] at hri
          injection hri with hri
          rw [hri])
        unfold ivr at hcell
        clear hu hri
        cases o
        · have HE2 : Hid ((false && (rs.drop (i + 1)).all fun r => decide (r < 256)) = b) := Lib.hid (by rw [← HE.out]; simp)
          clear HE HD hcell
          go_wp2
          go_roundw
          case rel => exact ⟨i + 1, false, by omega, by first | rfl | trivial, by go_num, by first | rfl | trivial, HE2⟩
          case measure => simp [Go.RowKit.intOf]; omega
        · have HE2 : Hid ((decide (r < 256) && (rs.drop (i + 1)).all fun r => decide (r < 256)) = b) := Lib.hid (by rw [← HE.out, HD.out]; simp)
          clear HE HD
          by_cases hr2 : r < 256
          · rw [decide_eq_true hr2] at HE2
            go_wp2
            go_roundw
            case rel => exact ⟨i + 1, _, by omega, by first | rfl | trivial, by go_num, by first | rfl | trivial, by simpa [hr2] using HE2⟩
            case measure => simp [Go.RowKit.intOf]; omega
          · rw [decide_eq_false hr2] at HE2
            go_wp2
            go_roundw
            case rel => exact ⟨i + 1, _, by omega, by first | rfl | trivial, by go_num, by first | rfl | trivial, by simpa [hr2] using HE2⟩
            case measure => simp [Go.RowKit.intOf]; omega
      · have hin' : ¬ (i : Int) < (n : Int) := by omega
        have hb : o = b := by
          have := HE.out
          rw [List.drop_eq_nil_of_le (by omega)] at this
          simpa using this
        subst hb
        clear HE
        go_wp2
        go_ret
        exact ⟨rfl, hb1⟩
  · rw [hv] at h1; cases h1
end Go.Proofs.YtllcecnkbndokaaGreatDoor
namespace Go.Proofs.YtllcecnkbndokaaGreatDoor
open Go.RowKit Go.Lib

/-- The table's box, and that nothing else has turned. -/
structure YS (w : World) (g : Nat) (T : Array Value) (W : World) : Prop where
  k : Bk W g 24 T
  b : Below w.heap.size w W
theorem YS.below {w W W' : World} {g : Nat} {T : Array Value} (h : YS w g T W) (hb : Below W.heap.size W W') : YS w g T W' := ⟨h.k.below hb h.k.lt, h.b.trans (hb.mono h.b.size)⟩
def FB (w : World) (l : List UInt8) (v : Value) (W : World) : Prop := ∃ A c, v = .slice A l.length c ∧ W.ownsRow w.heap.size 5 1 (.slice A l.length c) l.length (l.map bv)
theorem fb_stable {w : World} {l : List UInt8} : Stable (fun W W' => Below W.heap.size W W') (FB w l) := fun _ _ _ hE ⟨A, c, h, h1⟩ => ⟨A, c, h, own_below h1 hE⟩
theorem stable_isB (v : Value) : Stable (fun W W' => Below W.heap.size W W') (Is v) := fun _ _ _ _ h => h

set_option maxHeartbeats 32000000 in
set_option maxRecDepth 100000 in
theorem bLay_any {w : World} {B n c : Nat} {A : Option Addr} {L : List (List UInt8)} {u : Int} (h : Rd w B 1 A n (L.map tv)) (hB : B ≤ w.heap.size) (hn : n ≤ 1000) (hs : ∀ l ∈ L, l.length ≤ 100000) (h0 : ckTab L u = 0) :
    Calls Tryz.prog 26 #[.agg #[.slice A n c, .int .i64 u]] w fun e w' => ∃ d x p, e = .returned (.tuple #[d, x, p]) ∧ w'.ownsRow w.heap.size 5 1 d (layS L u).b.length ((layS L u).b.map bv) ∧ w'.ownsRow w.heap.size 3 1 x (layS L u).cs.length ((layS L u).cs.map iv) ∧ w'.ownsRow w.heap.size 3 1 p (layP L u).length ((layP L u).map nv) ∧ Below w.heap.size w w' := by
  have hl := h.tlen
  obtain ⟨-, hE, hu1, hu2, -⟩ := ckTab_ok h0
  obtain ⟨U, rfl⟩ : ∃ U : Nat, u = U := ⟨u.toNat, by omega⟩
  have HLA := Lib.hid (fun k (hk : k ≤ L.length) => lay_at h0 k hk (by omega))
  have HE := Lib.hid hE
  have HSZ := Lib.hid hs
  have HBG : Hid (begL L (U : Int) = ⟨lowB U 4 ++ lowB n 4, [], 0⟩) := Lib.hid (by unfold begL begS; rw [hl]; rfl)
  have hwu : IntKind.u64.wrap (U : Int) = (U : Int) := IntWalk.u64_in _ ⟨by omega, by omega⟩
  have hwn : IntKind.u64.wrap (n : Int) = (n : Int) := IntWalk.u64_in _ ⟨by omega, by omega⟩
  have hW := bx1' w (.cells #[.slice A n c, .int .i64 (U : Int)] 24)
  have k0 := Bk.new w 24 #[.slice A n c, .int .i64 (U : Int)]
  clear hs hE h0
  go_enter Tryz.func26, Tryz.ntmps26
  go_wp2_with fail
  generalize hWW : w.alloc (.cells #[.slice A n c, .int .i64 (U : Int)] 24) = W0 at *
  clear hWW
  have HY0 := Lib.hid (show YS w w.heap.size #[.slice A n c, .int .i64 (U : Int)] W0 from ⟨k0, hW⟩)
  clear k0 hW
  try simp only [List.append]
  refine wp_region_phases (S := (fun _ W => YS w w.heap.size #[.slice A n c, .int .i64 (U : Int)] W)) (E := (fun W W' => Below W.heap.size W W')) [] [(1, Is (.pointer (some ⟨w.heap.size, 0, none⟩))), (2, Is (.slice none 0 0)), (3, Is (.slice none 0 0)), (4, Is (.slice none 0 0))] [(15, Is (.pointer (some ⟨w.heap.size, 1, none⟩))), (16, Is (.int .i64 (U : Int))), (17, Is (.int .u64 (U : Int))), (18, FB w (lowB U 4)), (19, Is (.pointer (some ⟨w.heap.size, 0, none⟩))), (20, Is (.slice A n c)), (21, Is (.int .i64 (n : Int))), (22, Is (.int .u64 (n : Int))), (23, FB w (lowB U 4 ++ lowB n 4)), (5, FB w (lowB U 4 ++ lowB n 4))]
    [.op [1] none, .op [15] none, .op [16] none, .op [17] none, .op [1] none, .op [19] none, .op [20] none, .op [21] none, .op [18, 22] none, .op [23] none] (by as_aux_lemma => kernel_rfl) ?_ ?_ ?_ ?_ ?_ ⟨stable_isB _, stable_isB _, stable_isB _, stable_isB _, stable_isB _, stable_isB _, stable_isB _, fb_stable, stable_isB _, stable_isB _, stable_isB _, stable_isB _, fb_stable, fb_stable, trivial⟩ ?_ (HY0.out.below ((Below.refl _ _).drew)) ?_ ?_
  · as_aux_lemma => kernel_rfl
  · as_aux_lemma => kernel_rfl
  · as_aux_lemma => kernel_rfl
  · as_aux_lemma => kernel_rfl
  · as_aux_lemma => kernel_rfl
  · exact ⟨rfl, rfl, rfl, rfl, trivial⟩
  · refine ⟨?_, ?_, ?_, ?_, ?_, ?_, ?_, ?_, ?_, ?_, trivial⟩
    · as_aux_lemma =>
        intro vals a W hS hL
        have e1 : a.tmps.getD 1 undef = .pointer (some ⟨w.heap.size, 0, none⟩) := hL.1
        clear hL
        go_simp
        exact ⟨⟨fun d hd => by injection hd with hd; subst hd; rfl, fun h => by cases h⟩, hS, Below.refl _ _⟩
    · as_aux_lemma =>
        intro vals a W hS hL
        have e15 : a.tmps.getD 15 undef = .pointer (some ⟨w.heap.size, 1, none⟩) := hL.1
        clear hL
        have f1 := hS.k.cell 1
        go_simp
        exact ⟨⟨fun d hd => by injection hd with hd; subst hd; rfl, fun h => by cases h⟩, hS, Below.refl _ _⟩
    · as_aux_lemma =>
        intro vals a W hS hL
        have e16 : a.tmps.getD 16 undef = .int .i64 (U : Int) := hL.1
        clear hL
        have hwu := hwu
        go_simp
        exact ⟨⟨fun d hd => by injection hd with hd; subst hd; rfl, fun h => by cases h⟩, hS, Below.refl _ _⟩
    · as_aux_lemma =>
        intro vals a W hS hL
        have e17 : a.tmps.getD 17 undef = .int .u64 (U : Int) := hL.1
        clear hL
        go_simp
        refine (putLow_any (n := 0) (c := 0) (A := none) (l := []) (v := U) (s := 4) (Rd.nil _ 0 _ _) (Nat.zero_le _) (by omega) (by omega)).mono ?_
        rintro e W' ⟨v1, rfl, o1, hb⟩
        obtain ⟨A1, c1, rfl, -, -, -⟩ := own_form o1
        exact ⟨_, rfl, ⟨fun d hd => by injection hd with hd; subst hd; exact ⟨A1, c1, by rw [lowB_len], by rw [lowB_len]; exact own_mono o1 hS.b.size⟩, fun h => by cases h⟩, hS.below hb, hb⟩
    · as_aux_lemma =>
        intro vals a W hS hL
        have e1 : a.tmps.getD 1 undef = .pointer (some ⟨w.heap.size, 0, none⟩) := hL.1
        clear hL
        go_simp
        exact ⟨⟨fun d hd => by injection hd with hd; subst hd; rfl, fun h => by cases h⟩, hS, Below.refl _ _⟩
    · as_aux_lemma =>
        intro vals a W hS hL
        have e19 : a.tmps.getD 19 undef = .pointer (some ⟨w.heap.size, 0, none⟩) := hL.1
        clear hL
        have f0 := hS.k.cell 0
        go_simp
        exact ⟨⟨fun d hd => by injection hd with hd; subst hd; rfl, fun h => by cases h⟩, hS, Below.refl _ _⟩
    · as_aux_lemma =>
        intro vals a W hS hL
        have e20 : a.tmps.getD 20 undef = .slice A n c := hL.1
        clear hL
        go_simp
        exact ⟨⟨fun d hd => by injection hd with hd; subst hd; rfl, fun h => by cases h⟩, hS, Below.refl _ _⟩
    · as_aux_lemma =>
        intro vals a W hS hL
        have e21 : a.tmps.getD 21 undef = .int .i64 (n : Int) := hL.1
        clear hL
        have hwn := hwn
        go_simp
        exact ⟨⟨fun d hd => by injection hd with hd; subst hd; rfl, fun h => by cases h⟩, hS, Below.refl _ _⟩
    · as_aux_lemma =>
        intro vals a W hS hL
        have e18 := hL.1
        have e22 : a.tmps.getD 22 undef = .int .u64 (n : Int) := hL.2.1
        clear hL
        obtain ⟨A1, c1, e18, o1⟩ := e18
        rw [Array.getD_eq_getD_getElem?] at e18
        have r1 := own_form_rd o1
        rw [lowB_len] at e18 r1
        go_simp
        refine (putLow_any (c := c1) (v := n) (s := 4) r1 (Nat.le_refl _) (by omega) (by omega)).mono ?_
        rintro e W' ⟨v2, rfl, o2, hb⟩
        obtain ⟨A2, c2, rfl, -, -, -⟩ := own_form o2
        exact ⟨_, rfl, ⟨fun d hd => by injection hd with hd; subst hd; exact ⟨A2, c2, by rw [List.length_append, lowB_len, lowB_len], by rw [List.length_append, lowB_len, lowB_len]; exact own_mono o2 hS.b.size⟩, fun h => by cases h⟩, hS.below hb, hb⟩
    · as_aux_lemma =>
        intro vals a W hS hL
        have e23 := hL.1
        clear hL
        obtain ⟨A1, c1, e23, o1⟩ := e23
        rw [Array.getD_eq_getD_getElem?] at e23
        go_simp
        exact ⟨⟨fun d hd => by injection hd with hd; subst hd; exact ⟨A1, c1, rfl, o1⟩, fun h => by cases h⟩, hS, Below.refl _ _⟩
  · intro a W1 vals hd hsz hT hF hv hP hS
    have e1 : a.tmps.getD 1 undef = .pointer (some ⟨w.heap.size, 0, none⟩) := hT 1 (by simp)
    have e2 : a.tmps.getD 2 undef = .slice none 0 0 := hT 2 (by simp)
    have e3 : a.tmps.getD 3 undef = .slice none 0 0 := hT 3 (by simp)
    have e4 : a.tmps.getD 4 undef = .slice none 0 0 := hT 4 (by simp)
    obtain ⟨A5, c5, e5, o5⟩ := (show FB w (lowB U 4 ++ lowB n 4) (a.tmps.getD 5 undef) W1 from hT 5 (by simp))
    have HY := Lib.hid hS
    clear hT hF hP hS HY0 hv
    rw [act_lit 127 a hd hsz]
    simp only [List.range, List.range.loop, List.map, e1, e2, e3, e4, e5]
    clear e1 e2 e3 e4 e5 hsz hd
    generalize a.tmps.getD 0 undef = y0
    generalize a.tmps.getD 6 undef = y6
    generalize a.tmps.getD 7 undef = y7
    generalize a.tmps.getD 8 undef = y8
    generalize a.tmps.getD 9 undef = y9
    generalize a.tmps.getD 10 undef = y10
    generalize a.tmps.getD 11 undef = y11
    generalize a.tmps.getD 12 undef = y12
    generalize a.tmps.getD 13 undef = y13
    generalize a.tmps.getD 14 undef = y14
    generalize a.tmps.getD 15 undef = y15
    generalize a.tmps.getD 16 undef = y16
    generalize a.tmps.getD 17 undef = y17
    generalize a.tmps.getD 18 undef = y18
    generalize a.tmps.getD 19 undef = y19
    generalize a.tmps.getD 20 undef = y20
    generalize a.tmps.getD 21 undef = y21
    generalize a.tmps.getD 22 undef = y22
    generalize a.tmps.getD 23 undef = y23
    generalize a.tmps.getD 24 undef = y24
    generalize a.tmps.getD 25 undef = y25
    generalize a.tmps.getD 26 undef = y26
    generalize a.tmps.getD 27 undef = y27
    generalize a.tmps.getD 28 undef = y28
    generalize a.tmps.getD 29 undef = y29
    generalize a.tmps.getD 30 undef = y30
    generalize a.tmps.getD 31 undef = y31
    generalize a.tmps.getD 32 undef = y32
    generalize a.tmps.getD 33 undef = y33
    generalize a.tmps.getD 34 undef = y34
    generalize a.tmps.getD 35 undef = y35
    generalize a.tmps.getD 36 undef = y36
    generalize a.tmps.getD 37 undef = y37
    generalize a.tmps.getD 38 undef = y38
    generalize a.tmps.getD 39 undef = y39
    generalize a.tmps.getD 40 undef = y40
    generalize a.tmps.getD 41 undef = y41
    generalize a.tmps.getD 42 undef = y42
    generalize a.tmps.getD 43 undef = y43
    generalize a.tmps.getD 44 undef = y44
    generalize a.tmps.getD 45 undef = y45
    generalize a.tmps.getD 46 undef = y46
    generalize a.tmps.getD 47 undef = y47
    generalize a.tmps.getD 48 undef = y48
    generalize a.tmps.getD 49 undef = y49
    generalize a.tmps.getD 50 undef = y50
    generalize a.tmps.getD 51 undef = y51
    generalize a.tmps.getD 52 undef = y52
    generalize a.tmps.getD 53 undef = y53
    generalize a.tmps.getD 54 undef = y54
    generalize a.tmps.getD 55 undef = y55
    generalize a.tmps.getD 56 undef = y56
    generalize a.tmps.getD 57 undef = y57
    generalize a.tmps.getD 58 undef = y58
    generalize a.tmps.getD 59 undef = y59
    generalize a.tmps.getD 60 undef = y60
    generalize a.tmps.getD 61 undef = y61
    generalize a.tmps.getD 62 undef = y62
    generalize a.tmps.getD 63 undef = y63
    generalize a.tmps.getD 64 undef = y64
    generalize a.tmps.getD 65 undef = y65
    generalize a.tmps.getD 66 undef = y66
    generalize a.tmps.getD 67 undef = y67
    generalize a.tmps.getD 68 undef = y68
    generalize a.tmps.getD 69 undef = y69
    generalize a.tmps.getD 70 undef = y70
    generalize a.tmps.getD 71 undef = y71
    generalize a.tmps.getD 72 undef = y72
    generalize a.tmps.getD 73 undef = y73
    generalize a.tmps.getD 74 undef = y74
    generalize a.tmps.getD 75 undef = y75
    generalize a.tmps.getD 76 undef = y76
    generalize a.tmps.getD 77 undef = y77
    generalize a.tmps.getD 78 undef = y78
    generalize a.tmps.getD 79 undef = y79
    generalize a.tmps.getD 80 undef = y80
    generalize a.tmps.getD 81 undef = y81
    generalize a.tmps.getD 82 undef = y82
    generalize a.tmps.getD 83 undef = y83
    generalize a.tmps.getD 84 undef = y84
    generalize a.tmps.getD 85 undef = y85
    generalize a.tmps.getD 86 undef = y86
    generalize a.tmps.getD 87 undef = y87
    generalize a.tmps.getD 88 undef = y88
    generalize a.tmps.getD 89 undef = y89
    generalize a.tmps.getD 90 undef = y90
    generalize a.tmps.getD 91 undef = y91
    generalize a.tmps.getD 92 undef = y92
    generalize a.tmps.getD 93 undef = y93
    generalize a.tmps.getD 94 undef = y94
    generalize a.tmps.getD 95 undef = y95
    generalize a.tmps.getD 96 undef = y96
    generalize a.tmps.getD 97 undef = y97
    generalize a.tmps.getD 98 undef = y98
    generalize a.tmps.getD 99 undef = y99
    generalize a.tmps.getD 100 undef = y100
    generalize a.tmps.getD 101 undef = y101
    generalize a.tmps.getD 102 undef = y102
    generalize a.tmps.getD 103 undef = y103
    generalize a.tmps.getD 104 undef = y104
    generalize a.tmps.getD 105 undef = y105
    generalize a.tmps.getD 106 undef = y106
    generalize a.tmps.getD 107 undef = y107
    generalize a.tmps.getD 108 undef = y108
    generalize a.tmps.getD 109 undef = y109
    generalize a.tmps.getD 110 undef = y110
    generalize a.tmps.getD 111 undef = y111
    generalize a.tmps.getD 112 undef = y112
    generalize a.tmps.getD 113 undef = y113
    generalize a.tmps.getD 114 undef = y114
    generalize a.tmps.getD 115 undef = y115
    generalize a.tmps.getD 116 undef = y116
    generalize a.tmps.getD 117 undef = y117
    generalize a.tmps.getD 118 undef = y118
    generalize a.tmps.getD 119 undef = y119
    generalize a.tmps.getD 120 undef = y120
    generalize a.tmps.getD 121 undef = y121
    generalize a.tmps.getD 122 undef = y122
    generalize a.tmps.getD 123 undef = y123
    generalize a.tmps.getD 124 undef = y124
    generalize a.tmps.getD 125 undef = y125
    generalize a.tmps.getD 126 undef = y126
    have HL0 : Hid (L4 W1 w.heap.size (begL L (U : Int)) [] [] (.slice A5 (lowB U 4 ++ lowB n 4).length c5) (.slice none 0 0) (.slice none 0 0) (.slice none 0 0)) := Lib.hid (by
      rw [HBG.out]
      exact ⟨o5, World.ownsRow_nil _ _ _ _, World.ownsRow_nil _ _ _ _, World.ownsRow_nil _ _ _ _, fun i hi => by simp [Value.ownBlock] at hi, fun i hi => by simp [Value.ownBlock] at hi, fun i hi => by simp [Value.ownBlock] at hi⟩)
    have HB0 : Hid ((begL L (U : Int)).bg = 0) := Lib.hid (by rw [HBG.out])
    clear o5 HBG
    generalize (Value.slice A5 (lowB U 4 ++ lowB n 4).length c5) = v5 at *
    go_wp2
    go_loopw [5, 6, 7, 8, 9, 10, 11, 12, 13, 14] (fun s5 s6 s7 s8 s9 _ _ _ _ _ wr => ∃ (i : Nat) (S : LS) (ps : List Nat), i ≤ n ∧ s9 = .int .i64 i ∧ s8 = .int .i64 S.bg ∧ Hid (layT (begL L (U : Int)) (L.take i) = S) ∧ Hid (placesT (begL L (U : Int)) (L.take i) = ps) ∧ L4 wr w.heap.size S ps [] s5 s6 s7 (.slice none 0 0) ∧ YS w w.heap.size #[.slice A n c, .int .i64 (U : Int)] wr) (fun _ _ _ _ s9 _ _ _ _ _ _ => n - (Go.RowKit.intOf s9).toNat)
    case atStart => exact ⟨0, begL L (U : Int), [], Nat.zero_le _, rfl, by rw [HB0.out]; rfl, Lib.hid rfl, Lib.hid rfl, HL0.out, HY.out⟩
    case round =>
      clear HL0 HY HB0
      obtain ⟨i, S, ps, hi, rfl, rfl, HS, HPS, hL4, hY⟩ := hrel
      obtain ⟨hI, hb1, hb2⟩ := HLA.out i (by omega)
      rw [HS.out] at hI hb1 hb2
      have hbg := hI.bg
      have hpl : ps.length ≤ 1000 := by rw [← HPS.out, places_len, List.length_take]; omega
      clear hI
      by_cases hin : i < n
      · have hin' : (i : Int) < (n : Int) := by omega
        obtain ⟨ra, s, rfl, hab, hsi, hcell⟩ := (h.belowMono hY.b hB).strAt hin
        have hss : s.size ≤ 100000 := by have := HSZ.out _ (List.mem_of_getElem? hsi); simpa using this
        obtain ⟨hv, hun⟩ := uE_valid (HE.out _ (List.mem_of_getElem? hsi))
        have HV2 := Lib.hid hv
        have HS2 := Lib.hid (layT_take (S := begL L (U : Int)) hsi)
        have HPS2 := Lib.hid (placesT_take (S := begL L (U : Int)) hsi)
        rw [HS.out] at HS2 HPS2
        rw [HPS.out] at HPS2
        have hRU := bRunes_any (w := wr) s (by omega)
        have hln := rns_len2 s.data.toList
        have hl2 : s.data.toList.length = s.size := by simp
        rw [hl2] at hln
        have HRN := Lib.hid (fun w2 => bNarrow_any (w := w2) s (by omega) hv)
        have HUB := Lib.hid (unis_bd hv)
        have HOK := Lib.hid (runes_ok hv)
        have hUN : (unis s.data.toList).length = unN s.data.toList := rfl
        rw [← hUN] at hun
        have HT2 : Hid (headT s.data.toList = b2 ((unis s.data.toList).length : Int) ++ [UInt8.ofNat (flT s.data.toList)]) := Lib.hid rfl
        have HPT : Hid (putT S s.data.toList = (unis s.data.toList).foldl (putU (flT s.data.toList)) (begT S s.data.toList)) := Lib.hid rfl
        have HBT : Hid (begT S s.data.toList = ⟨(cut3 S).b ++ headT s.data.toList, (cut3 S).cs, (cut3 S).bg⟩) := Lib.hid rfl
        have HFL : Hid (flT s.data.toList = if narB s.data.toList = true then 0 else 1) := Lib.hid rfl
        have HUS : Hid ((rns s.data.toList).flatMap uni = unis s.data.toList) := Lib.hid rfl
        clear hsi hUN hl2
        generalize s.data.toList = l at *
        have c10 := hY.k.cell 0
        have HY := Lib.hid hY
        have HL := Lib.hid hL4
        have hsz1 := hY.b.size
        clear hY hL4 hv
        go_wp2_with fail
        refine hRU.mono ?_
        rintro e w1 ⟨hg, b1⟩
        clear hRU
        rcases hg with ⟨-, v1, n1, rfl, o1⟩ | ⟨hx, -⟩
        · obtain ⟨A1, c1, rfl, -, -, r1⟩ := own_form o1
          have hn1 : (rns l).length = n1 := by have := r1.len; simp at this; exact this
          have hok := HOK.out
          have b1s := b1.size
          clear o1 HOK c10
          go_wp2_with fail
          refine (bunits_any (c := c1) r1 (Nat.le_refl _) (by omega) (fun r hm => ⟨(hok r hm).1, (hok r hm).2.1⟩)).mono ?_
          rintro e w2 ⟨v2, n2, rfl, o2, -, b2⟩
          rw [HUS.out] at o2
          have b12 := b1.trans (b2.mono b1.size)
          have hL2 := HL.out.units (W1 := w1) b12 o2 b1s (by omega)
          have hY2 := HY.out.below b12
          have hcell2 := cell_keep hcell b12 (by omega)
          obtain ⟨A2, c2, rfl, -, -, r2⟩ := own_form o2
          have hn2 : (unis l).length = n2 := by have := r2.len; simp at this; exact this
          subst hn2
          clear hok HUS r1 o2 r2 b1 b2 b12 HL HY hcell hn1 b1s
          have c10 := hY2.k.cell 0
          have hnb := HRN.out w2
          generalize unis l = us at *
          cases hN : narB l
          · rw [hN] at HFL hnb
            have hfl : flT l = 1 := HFL.out
            rw [hfl] at HT2 HPT
            go_wp2_with fail
            refine hnb.mono ?_
            rintro e w3 ⟨rfl, b3⟩
            dsimp only
            have hL3 := hL2.below b3
            have hY3 := hY2.below b3
            clear HRN hnb hL2 hY2 hcell2 c10 b3
            obtain ⟨Ad3, cd3, hdv3, -, -, -⟩ := own_form hL3.od
            obtain ⟨Ac3, cc3, hcv3, -, -, -⟩ := own_form hL3.oc
            obtain ⟨Ap3, cp3, hpv3, -, -, -⟩ := own_form hL3.op
            subst hdv3 hcv3 hpv3
            have HL3 := Lib.hid hL3
            have HY3 := Lib.hid hY3
            clear hL3 hY3
            by_cases hcut : 224 < S.b.length - S.bg + 3
            · have hcut' : (224 : Int) < (S.b.length : Int) - (S.bg : Int) + 3 := by omega
              have HC3 : Hid (cut3 S = ⟨S.b, S.cs ++ [(S.b.length : Int)], S.b.length⟩) := Lib.hid (by unfold cut3; rw [if_pos hcut])
              clear hcut
              have hown := HL3.out.oc
              have hos := HY3.out.b.size
              go_wp2_with (at_builtin; refine wpList_app intsRow rfl (.tmp 54) (.tmp 57) rfl rfl rfl (hown.alloc _) (Rd.fresh _ _ 1 1 _ rfl) ?_ ?_ ?_ ?_ ?_)
              try any_goals first | rfl | (unfold maxLen; omega) | omega | (intro z hz; simp at hz; rcases hz with rfl <;> rfl) | (simp; omega)
              intro vx wx ox gx bx
              have hLx := HL3.out.cut (x := (S.b.length : Int)) (q := S.b.length) gx ox
              have hYx : YS w w.heap.size #[.slice (some ra) n c, .int .i64 (U : Int)] wx := ⟨gx.bk (hown.alloc _) (HY3.out.k.alloc _) (by decide), HY3.out.b.trans (((Below.refl _ _).alloc hos _).trans bx)⟩
              have HYx := Lib.hid hYx
              have HLx := Lib.hid hLx
              obtain ⟨Acx, ccx, hcvx, -, -, -⟩ := own_form hLx.oc
              simp only [List.length_append, List.length_singleton] at hcvx
              subst hcvx
              clear ox gx bx hown hos HL3 HY3 hLx hYx
              have hown := HLx.out.op
              have hos := HYx.out.b.size
              go_wp2_with (at_builtin; refine wpList_app intsRow rfl (.tmp 61) (.tmp 64) rfl rfl rfl (hown.alloc _) (Rd.fresh _ _ 1 1 _ rfl) ?_ ?_ ?_ ?_ ?_)
              try any_goals first | rfl | (unfold maxLen; omega) | omega | (intro z hz; simp at hz; rcases hz with rfl <;> rfl) | (simp; omega)
              intro vp wp op gp bp
              have hLp := HLx.out.place (x := S.b.length) gp op
              have hYp : YS w w.heap.size #[.slice (some ra) n c, .int .i64 (U : Int)] wp := ⟨gp.bk (hown.alloc _) (HYx.out.k.alloc _) (by decide), HYx.out.b.trans (((Below.refl _ _).alloc hos _).trans bp)⟩
              have HYp := Lib.hid hYp
              have HLp := Lib.hid hLp
              obtain ⟨App, cpp, hpvp, -, -, -⟩ := own_form hLp.op
              subst hpvp
              clear op gp bp hown hos HLx HYx hLp hYp
              have hown : wp.ownsRow w.heap.size 5 1 (.slice Ad3 S.b.length cd3) S.b.length (S.b.map bv) := HLp.out.od
              have hos := HYp.out.b.size
              go_wp2_with (at_builtin; refine wpList_app bytesRow rfl (.tmp 66) (.tmp 77) rfl rfl rfl (hown.alloc _) (Rd.fresh _ _ 1 3 _ rfl) ?_ ?_ ?_ ?_ ?_)
              try any_goals first | rfl | (unfold maxLen; omega) | omega | (intro z hz; simp at hz; rcases hz with rfl | rfl | rfl <;> rfl) | (simp; omega)
              intro vh wh oh gh bh
              have oh' : wh.ownsRow w.heap.size 5 1 vh (S.b.length + [by8 ((us.length : Nat) : Int), by8 (((us.length : Nat) : Int) / 256), UInt8.ofNat 1].length) (S.b.map bv ++ ([by8 ((us.length : Nat) : Int), by8 (((us.length : Nat) : Int) / 256), UInt8.ofNat 1] : List UInt8).map bv) := by
                rw [head_vals (by omega) (by omega)]
                exact oh
              have hLxh := HLp.out.data (t := [by8 ((us.length : Nat) : Int), by8 (((us.length : Nat) : Int) / 256), UInt8.ofNat 1]) gh oh'
              obtain ⟨Th, HTh⟩ : ∃ Th : LS, Hid (Th = ⟨S.b ++ [by8 ((us.length : Nat) : Int), by8 (((us.length : Nat) : Int) / 256), UInt8.ofNat 1], S.cs ++ [(S.b.length : Int)], S.b.length⟩) := ⟨_, Lib.hid rfl⟩
              have hqh : Th.b.length ≤ S.b.length + 3 := by rw [HTh.out]; simp <;> omega
              have hLh := hLxh
              have hLhe : (⟨S.b ++ [by8 ((us.length : Nat) : Int), by8 (((us.length : Nat) : Int) / 256), UInt8.ofNat 1], S.cs ++ [(S.b.length : Int)], S.b.length⟩ : LS) = Th := HTh.out.symm
              simp only [hLhe] at hLh
              have hYh : YS w w.heap.size #[.slice (some ra) n c, .int .i64 (U : Int)] wh := ⟨gh.bk (hown.alloc _) (HYp.out.k.alloc _) (by decide), HYp.out.b.trans (((Below.refl _ _).alloc hos _).trans bh)⟩
              have HYh := Lib.hid hYh
              have HLh := Lib.hid hLh
              obtain ⟨Adh, cdh, hdvh, -, -, -⟩ := own_form hLh.od
              subst hdvh
              clear oh oh' gh bh hown hos HLp HYp hLh hLxh hLhe hYh
              obtain ⟨S1, HS1, hS1b, hS1c, hS1g⟩ : ∃ S1 : LS, Hid (S1 = cut3 S) ∧ S1.b.length = S.b.length ∧ S1.cs.length ≤ S.b.length + 1 ∧ S1.bg ≤ S.b.length := ⟨_, Lib.hid rfl, by rw [cut3_b], by rw [HC3.out]; simp <;> omega, by rw [HC3.out]; simp <;> omega⟩
              have HS7 : Hid (Th = ⟨S1.b ++ headT l, S1.cs, S1.bg⟩) := Lib.hid (by rw [HTh.out, HS1.out, HC3.out, HT2.out]; rfl)
              have HG7 : Hid (Th.bg = S.b.length) := Lib.hid (by rw [HTh.out])
              have HL7 := HLh
              have HY7 := HYh
              obtain ⟨M0, hM0⟩ : ∃ M0, S1.b.length + 3 = M0 := ⟨_, rfl⟩
              have hM1 : M0 ≤ 4000000 := by omega
              have hL7 := HL7.out
              have hY7 := HY7.out
              have hS7 : Th = ⟨S1.b ++ headT l, S1.cs, S1.bg⟩ := HS7.out
              have e7 : Th.b.length = M0 ∧ Th.cs.length ≤ Th.b.length ∧ Th.bg ≤ Th.b.length := by
                rw [hS7]
                simp only [List.length_append, headT_len]
                omega
              have HF7 : Hid (us.foldl (putU 1) Th = putT S l) := Lib.hid (by rw [HPT.out, HBT.out, hS7, HS1.out])
              clear hS7 HS7 hM0 HL7 HY7 HPT HBT HS1 HT2
              go_wp2
              go_loopw [5, 6, 8, 14] (fun s5 s6 s8 s14 wq => ∃ (k : Nat) (T : LS), k ≤ us.length ∧ s14 = .int .i64 k ∧ s8 = .int .i64 T.bg ∧ T.b.length ≤ M0 + 3 * k ∧ T.cs.length ≤ T.b.length ∧ T.bg ≤ T.b.length ∧ Hid ((us.drop k).foldl (putU 1) T = putT S l) ∧ L4 wq w.heap.size T (ps ++ [S.b.length]) us s5 s6 (.slice App (ps ++ [S.b.length]).length cpp) (.slice A2 us.length c2) ∧ YS w w.heap.size #[.slice (some ra) n c, .int .i64 (U : Int)] wq) (fun _ _ _ s14 _ => us.length - (Go.RowKit.intOf s14).toNat)
              case atStart => exact ⟨0, Th, Nat.zero_le _, rfl, by rw [HG7.out], by omega, by omega, by omega, Lib.hid HF7.out, hL7, hY7⟩
              case round =>
                clear hL7 hY7 HF7 e7
                obtain ⟨k, T, hk, rfl, rfl, ht1, ht2, ht3, HT, hL, hY⟩ := hrel
                by_cases hkn : k < us.length
                · have hkn' : (k : Int) < (us.length : Int) := by omega
                  obtain ⟨x, hx⟩ : ∃ x, us[k]? = some x := ⟨us[k]'(by omega), List.getElem?_eq_getElem _⟩
                  have hxb := HUB.out x (List.mem_of_getElem? hx)
                  have HX := Lib.hid hx
                  have HT3 : Hid ((us.drop (k + 1)).foldl (putU 1) (putU 1 T x) = putT S l) := Lib.hid (by
                    have hi := List.getElem?_eq_some_iff.1 hx
                    have := HT.out
                    rw [List.drop_eq_getElem_cons hi.1, hi.2, List.foldl_cons] at this
                    exact this)
                  obtain ⟨ht4, ht5⟩ := putU_bd (w := 1) (by omega) x ht2
                  obtain ⟨Ad, cd, hdv, -, -, -⟩ := own_form hL.od
                  obtain ⟨Ac, cc, hcv, -, -, -⟩ := own_form hL.oc
                  subst hdv hcv
                  have HY0 := Lib.hid hY
                  have HL0 := Lib.hid hL
                  clear HT hx hY hL
                  by_cases hcut : 224 < T.b.length - T.bg + 2
                  · have hcut' : (224 : Int) < (T.b.length : Int) - (T.bg : Int) + 2 := by omega
                    have HE2 := Lib.hid (putU_cut (k := 2) (w := 1) rfl x hcut)
                    clear hcut
                    have hown := HL0.out.oc
                    have hos := HY0.out.b.size
                    go_wp2_with (at_builtin; refine wpList_app intsRow rfl (.tmp 92) (.tmp 95) rfl rfl rfl (hown.alloc _) (Rd.fresh _ _ 1 1 _ rfl) ?_ ?_ ?_ ?_ ?_)
                    try any_goals first | rfl | (unfold maxLen; omega) | omega | (intro z hz; simp at hz; rcases hz with rfl <;> rfl) | (simp; omega)
                    intro va wa oa ga ba
                    have hLa := HL0.out.cut (x := (T.b.length : Int)) (q := T.b.length) ga oa
                    have hYa : YS w w.heap.size #[.slice (some ra) n c, .int .i64 (U : Int)] wa := ⟨ga.bk (hown.alloc _) (HY0.out.k.alloc _) (by decide), HY0.out.b.trans (((Below.refl _ _).alloc hos _).trans ba)⟩
                    have HYa := Lib.hid hYa
                    have HLa := Lib.hid hLa
                    obtain ⟨Aca, cca, hcva, -, -, -⟩ := own_form hLa.oc
                    simp only [List.length_append, List.length_singleton] at hcva
                    subst hcva
                    clear oa ga ba hown hos HL0 HY0 hLa hYa
                    have hown : wa.ownsRow w.heap.size 5 1 (.slice Ad T.b.length cd) T.b.length (T.b.map bv) := HLa.out.od
                    have hos := HYa.out.b.size
                    go_wp2_with (at_builtin; refine wpList_app bytesRow rfl (.tmp 99) (.tmp 103) rfl rfl rfl (hown.alloc _) (Rd.fresh _ _ 1 1 _ rfl) ?_ ?_ ?_ ?_ ?_)
                    try any_goals first | rfl | (unfold maxLen; omega) | omega | (intro z hz; simp at hz; rcases hz with rfl <;> rfl) | (simp; omega)
                    intro vb wb ob gb bb
                    have ob' : wb.ownsRow w.heap.size 5 1 vb (T.b.length + [UInt8.ofNat 1].length) (T.b.map bv ++ ([UInt8.ofNat 1] : List UInt8).map bv) := by
                      skip
                      exact ob
                    have hLxb := HLa.out.data (t := [UInt8.ofNat 1]) gb ob'
                    obtain ⟨Tb, HTb⟩ : ∃ Tb : LS, Hid (Tb = ⟨T.b ++ [UInt8.ofNat 1], T.cs ++ [(T.b.length : Int)], T.b.length⟩) := ⟨_, Lib.hid rfl⟩
                    have hqb : Tb.b.length ≤ M0 + 3 * k + 1 := by rw [HTb.out]; simp <;> omega
                    have hLb := hLxb
                    have hLbe : (⟨T.b ++ [UInt8.ofNat 1], T.cs ++ [(T.b.length : Int)], T.b.length⟩ : LS) = Tb := HTb.out.symm
                    simp only [hLbe] at hLb
                    have hYb : YS w w.heap.size #[.slice (some ra) n c, .int .i64 (U : Int)] wb := ⟨gb.bk (hown.alloc _) (HYa.out.k.alloc _) (by decide), HYa.out.b.trans (((Below.refl _ _).alloc hos _).trans bb)⟩
                    have HYb := Lib.hid hYb
                    have HLb := Lib.hid hLb
                    obtain ⟨Adb, cdb, hdvb, -, -, -⟩ := own_form hLb.od
                    subst hdvb
                    clear ob ob' gb bb hown hos HLa HYa hLb hLxb hLbe hYb
                    have rU := own_form_rd HLb.out.ou
                    obtain ⟨aU, x', rfl, hx', hcx⟩ := icell rU hkn
                    obtain rfl : x = x' := Option.some.inj (HX.out.symm.trans hx')
                    clear rU hx'
                    have hown : wb.ownsRow w.heap.size 5 1 (.slice Adb Tb.b.length cdb) Tb.b.length (Tb.b.map bv) := HLb.out.od
                    have hos := HYb.out.b.size
                    go_wp2_with (at_builtin; refine wpList_app bytesRow rfl (.tmp 105) (.tmp 111) rfl rfl rfl (hown.alloc _) (Rd.fresh _ _ 1 1 _ rfl) ?_ ?_ ?_ ?_ ?_)
                    try any_goals first | rfl | (unfold maxLen; omega) | omega | (intro z hz; simp at hz; rcases hz with rfl <;> rfl) | (simp; omega)
                    intro vc wc oc gc bc
                    have oc' : wc.ownsRow w.heap.size 5 1 vc (Tb.b.length + [by8 x].length) (Tb.b.map bv ++ ([by8 x] : List UInt8).map bv) := by
                      rw [List.map_cons, List.map_nil, bv_by8]
                      exact oc
                    have hLxc := HLb.out.data (t := [by8 x]) gc oc'
                    obtain ⟨Tc, HTc⟩ : ∃ Tc : LS, Hid (Tc = ⟨Tb.b ++ [by8 x], Tb.cs, Tb.bg⟩) := ⟨_, Lib.hid rfl⟩
                    have hqc : Tc.b.length ≤ M0 + 3 * k + 1 + 1 := by rw [HTc.out]; simp <;> omega
                    have hLc := hLxc
                    have hLce : (⟨Tb.b ++ [by8 x], Tb.cs, Tb.bg⟩ : LS) = Tc := HTc.out.symm
                    simp only [hLce] at hLc
                    have hYc : YS w w.heap.size #[.slice (some ra) n c, .int .i64 (U : Int)] wc := ⟨gc.bk (hown.alloc _) (HYb.out.k.alloc _) (by decide), HYb.out.b.trans (((Below.refl _ _).alloc hos _).trans bc)⟩
                    have HYc := Lib.hid hYc
                    have HLc := Lib.hid hLc
                    obtain ⟨Adc, cdc, hdvc, -, -, -⟩ := own_form hLc.od
                    subst hdvc
                    clear oc oc' gc bc hown hos HLb HYb hLc hLxc hLce hYc hcx
                    have rU := own_form_rd HLc.out.ou
                    obtain ⟨aU2, x', hau, hx', hcx⟩ := icell rU hkn
                    injection hau with hau
                    subst hau
                    obtain rfl : x = x' := Option.some.inj (HX.out.symm.trans hx')
                    clear rU hx'
                    have hown : wc.ownsRow w.heap.size 5 1 (.slice Adc Tc.b.length cdc) Tc.b.length (Tc.b.map bv) := HLc.out.od
                    have hos := HYc.out.b.size
                    go_wp2_with (at_builtin; refine wpList_app bytesRow rfl (.tmp 115) (.tmp 122) rfl rfl rfl (hown.alloc _) (Rd.fresh _ _ 1 1 _ rfl) ?_ ?_ ?_ ?_ ?_)
                    try any_goals first | rfl | (unfold maxLen; omega) | omega | (intro z hz; simp at hz; rcases hz with rfl <;> rfl) | (simp; omega)
                    intro vd wd od gd bd
                    have od' : wd.ownsRow w.heap.size 5 1 vd (Tc.b.length + [by8 (x / 256)].length) (Tc.b.map bv ++ ([by8 (x / 256)] : List UInt8).map bv) := by
                      rw [List.map_cons, List.map_nil, bv_by8, show x / 256 % 256 = x / 256 by omega]
                      exact od
                    have hLxd := HLc.out.data (t := [by8 (x / 256)]) gd od'
                    obtain ⟨Td, HTd⟩ : ∃ Td : LS, Hid (Td = ⟨Tc.b ++ [by8 (x / 256)], Tc.cs, Tc.bg⟩) := ⟨_, Lib.hid rfl⟩
                    have hqd : Td.b.length ≤ M0 + 3 * k + 1 + 2 := by rw [HTd.out]; simp <;> omega
                    have hLd := hLxd
                    have hLde : (⟨Tc.b ++ [by8 (x / 256)], Tc.cs, Tc.bg⟩ : LS) = Td := HTd.out.symm
                    simp only [hLde] at hLd
                    have hYd : YS w w.heap.size #[.slice (some ra) n c, .int .i64 (U : Int)] wd := ⟨gd.bk (hown.alloc _) (HYc.out.k.alloc _) (by decide), HYc.out.b.trans (((Below.refl _ _).alloc hos _).trans bd)⟩
                    have HYd := Lib.hid hYd
                    have HLd := Lib.hid hLd
                    obtain ⟨Add, cdd, hdvd, -, -, -⟩ := own_form hLd.od
                    subst hdvd
                    clear od od' gd bd hown hos HLc HYc hLd hLxd hLde hYd hcx
                    have HY9 := HYd
                    have HL9 := HLd
                    have HQ9 : Hid (Td = putU 1 T x) := Lib.hid (by
                      rw [HE2.out]
                      simp only [HTd.out]; simp only [HTc.out]; simp only [HTb.out]
                      simp [ub])
                    clear HTb HTc HTd
                    go_wp2
                    go_roundw
                    case rel => exact ⟨k + 1, Td, by omega, by go_num, by rw [HQ9.out, HE2.out], by rw [HQ9.out]; omega, by rw [HQ9.out]; exact ht5, by rw [HQ9.out, HE2.out]; simp [ub] <;> omega, Lib.hid (by rw [HQ9.out]; exact HT3.out), HL9.out, HY9.out⟩
                    case measure => simp [Go.RowKit.intOf]; omega
                  · have hcut' : ¬ (224 : Int) < (T.b.length : Int) - (T.bg : Int) + 2 := by omega
                    have HE2 := Lib.hid (putU_go (k := 2) (w := 1) rfl x hcut)
                    clear hcut
                    have rU := own_form_rd HL0.out.ou
                    obtain ⟨aU, x', rfl, hx', hcx⟩ := icell rU hkn
                    obtain rfl : x = x' := Option.some.inj (HX.out.symm.trans hx')
                    clear rU hx'
                    have hown := HL0.out.od
                    have hos := HY0.out.b.size
                    go_wp2_with (at_builtin; refine wpList_app bytesRow rfl (.tmp 105) (.tmp 111) rfl rfl rfl (hown.alloc _) (Rd.fresh _ _ 1 1 _ rfl) ?_ ?_ ?_ ?_ ?_)
                    try any_goals first | rfl | (unfold maxLen; omega) | omega | (intro z hz; simp at hz; rcases hz with rfl <;> rfl) | (simp; omega)
                    intro vc wc oc gc bc
                    have oc' : wc.ownsRow w.heap.size 5 1 vc (T.b.length + [by8 x].length) (T.b.map bv ++ ([by8 x] : List UInt8).map bv) := by
                      rw [List.map_cons, List.map_nil, bv_by8]
                      exact oc
                    have hLxc := HL0.out.data (t := [by8 x]) gc oc'
                    obtain ⟨Tc, HTc⟩ : ∃ Tc : LS, Hid (Tc = ⟨T.b ++ [by8 x], T.cs, T.bg⟩) := ⟨_, Lib.hid rfl⟩
                    have hqc : Tc.b.length ≤ M0 + 3 * k + 1 := by rw [HTc.out]; simp <;> omega
                    have hLc := hLxc
                    have hLce : (⟨T.b ++ [by8 x], T.cs, T.bg⟩ : LS) = Tc := HTc.out.symm
                    simp only [hLce] at hLc
                    have hYc : YS w w.heap.size #[.slice (some ra) n c, .int .i64 (U : Int)] wc := ⟨gc.bk (hown.alloc _) (HY0.out.k.alloc _) (by decide), HY0.out.b.trans (((Below.refl _ _).alloc hos _).trans bc)⟩
                    have HYc := Lib.hid hYc
                    have HLc := Lib.hid hLc
                    obtain ⟨Adc, cdc, hdvc, -, -, -⟩ := own_form hLc.od
                    subst hdvc
                    clear oc oc' gc bc hown hos HL0 HY0 hLc hLxc hLce hYc hcx
                    have rU := own_form_rd HLc.out.ou
                    obtain ⟨aU2, x', hau, hx', hcx⟩ := icell rU hkn
                    injection hau with hau
                    subst hau
                    obtain rfl : x = x' := Option.some.inj (HX.out.symm.trans hx')
                    clear rU hx'
                    have hown : wc.ownsRow w.heap.size 5 1 (.slice Adc Tc.b.length cdc) Tc.b.length (Tc.b.map bv) := HLc.out.od
                    have hos := HYc.out.b.size
                    go_wp2_with (at_builtin; refine wpList_app bytesRow rfl (.tmp 115) (.tmp 122) rfl rfl rfl (hown.alloc _) (Rd.fresh _ _ 1 1 _ rfl) ?_ ?_ ?_ ?_ ?_)
                    try any_goals first | rfl | (unfold maxLen; omega) | omega | (intro z hz; simp at hz; rcases hz with rfl <;> rfl) | (simp; omega)
                    intro vd wd od gd bd
                    have od' : wd.ownsRow w.heap.size 5 1 vd (Tc.b.length + [by8 (x / 256)].length) (Tc.b.map bv ++ ([by8 (x / 256)] : List UInt8).map bv) := by
                      rw [List.map_cons, List.map_nil, bv_by8, show x / 256 % 256 = x / 256 by omega]
                      exact od
                    have hLxd := HLc.out.data (t := [by8 (x / 256)]) gd od'
                    obtain ⟨Td, HTd⟩ : ∃ Td : LS, Hid (Td = ⟨Tc.b ++ [by8 (x / 256)], Tc.cs, Tc.bg⟩) := ⟨_, Lib.hid rfl⟩
                    have hqd : Td.b.length ≤ M0 + 3 * k + 2 := by rw [HTd.out]; simp <;> omega
                    have hLd := hLxd
                    have hLde : (⟨Tc.b ++ [by8 (x / 256)], Tc.cs, Tc.bg⟩ : LS) = Td := HTd.out.symm
                    simp only [hLde] at hLd
                    have hYd : YS w w.heap.size #[.slice (some ra) n c, .int .i64 (U : Int)] wd := ⟨gd.bk (hown.alloc _) (HYc.out.k.alloc _) (by decide), HYc.out.b.trans (((Below.refl _ _).alloc hos _).trans bd)⟩
                    have HYd := Lib.hid hYd
                    have HLd := Lib.hid hLd
                    obtain ⟨Add, cdd, hdvd, -, -, -⟩ := own_form hLd.od
                    subst hdvd
                    clear od od' gd bd hown hos HLc HYc hLd hLxd hLde hYd hcx
                    have HY9 := HYd
                    have HL9 := HLd
                    have HQ9 : Hid (Td = putU 1 T x) := Lib.hid (by
                      rw [HE2.out]
                      simp only [HTd.out]; simp only [HTc.out]
                      simp [ub])
                    clear HTc HTd
                    go_wp2
                    go_roundw
                    case rel => exact ⟨k + 1, Td, by omega, by go_num, by rw [HQ9.out, HE2.out], by rw [HQ9.out]; omega, by rw [HQ9.out]; exact ht5, by rw [HQ9.out, HE2.out]; simp [ub] <;> omega, Lib.hid (by rw [HQ9.out]; exact HT3.out), HL9.out, HY9.out⟩
                    case measure => simp [Go.RowKit.intOf]; omega
                · obtain rfl : us.length = k := by omega
                  have hHT := HT.out
                  rw [List.drop_eq_nil_of_le (by omega)] at hHT
                  have hTT : T = putT S l := hHT
                  have HL9 := Lib.hid hL.none
                  have HY9 := Lib.hid hY
                  have HT9 := Lib.hid hTT
                  obtain ⟨Ad, cd, hdv, -, -, -⟩ := own_form hL.od
                  obtain ⟨Ac, cc, hcv, -, -, -⟩ := own_form hL.oc
                  subst hdv hcv
                  clear HT hL hY hkn hHT hTT
                  go_wp2
                  go_roundw
                  case rel => exact ⟨i + 1, T, ps ++ [S.b.length], by omega, by go_num, by first | rfl | trivial, Lib.hid (by rw [HS2.out, HT9.out]), Lib.hid HPS2.out, by have := HL9.out; rwa [show (ps ++ [S.b.length]).length = ps.length + 1 by simp] at this, HY9.out⟩
                  case measure => simp [Go.RowKit.intOf]; omega
            · have hcut' : ¬ (224 : Int) < (S.b.length : Int) - (S.bg : Int) + 3 := by omega
              have HC3 : Hid (cut3 S = ⟨S.b, S.cs, S.bg⟩) := Lib.hid (by unfold cut3; rw [if_neg hcut])
              clear hcut
              have hown := HL3.out.op
              have hos := HY3.out.b.size
              go_wp2_with (at_builtin; refine wpList_app intsRow rfl (.tmp 61) (.tmp 64) rfl rfl rfl (hown.alloc _) (Rd.fresh _ _ 1 1 _ rfl) ?_ ?_ ?_ ?_ ?_)
              try any_goals first | rfl | (unfold maxLen; omega) | omega | (intro z hz; simp at hz; rcases hz with rfl <;> rfl) | (simp; omega)
              intro vp wp op gp bp
              have hLp := HL3.out.place (x := S.b.length) gp op
              have hYp : YS w w.heap.size #[.slice (some ra) n c, .int .i64 (U : Int)] wp := ⟨gp.bk (hown.alloc _) (HY3.out.k.alloc _) (by decide), HY3.out.b.trans (((Below.refl _ _).alloc hos _).trans bp)⟩
              have HYp := Lib.hid hYp
              have HLp := Lib.hid hLp
              obtain ⟨App, cpp, hpvp, -, -, -⟩ := own_form hLp.op
              subst hpvp
              clear op gp bp hown hos HL3 HY3 hLp hYp
              have hown : wp.ownsRow w.heap.size 5 1 (.slice Ad3 S.b.length cd3) S.b.length (S.b.map bv) := HLp.out.od
              have hos := HYp.out.b.size
              go_wp2_with (at_builtin; refine wpList_app bytesRow rfl (.tmp 66) (.tmp 77) rfl rfl rfl (hown.alloc _) (Rd.fresh _ _ 1 3 _ rfl) ?_ ?_ ?_ ?_ ?_)
              try any_goals first | rfl | (unfold maxLen; omega) | omega | (intro z hz; simp at hz; rcases hz with rfl | rfl | rfl <;> rfl) | (simp; omega)
              intro vh wh oh gh bh
              have oh' : wh.ownsRow w.heap.size 5 1 vh (S.b.length + [by8 ((us.length : Nat) : Int), by8 (((us.length : Nat) : Int) / 256), UInt8.ofNat 1].length) (S.b.map bv ++ ([by8 ((us.length : Nat) : Int), by8 (((us.length : Nat) : Int) / 256), UInt8.ofNat 1] : List UInt8).map bv) := by
                rw [head_vals (by omega) (by omega)]
                exact oh
              have hLxh := HLp.out.data (t := [by8 ((us.length : Nat) : Int), by8 (((us.length : Nat) : Int) / 256), UInt8.ofNat 1]) gh oh'
              obtain ⟨Th, HTh⟩ : ∃ Th : LS, Hid (Th = ⟨S.b ++ [by8 ((us.length : Nat) : Int), by8 (((us.length : Nat) : Int) / 256), UInt8.ofNat 1], S.cs, S.bg⟩) := ⟨_, Lib.hid rfl⟩
              have hqh : Th.b.length ≤ S.b.length + 3 := by rw [HTh.out]; simp <;> omega
              have hLh := hLxh
              have hLhe : (⟨S.b ++ [by8 ((us.length : Nat) : Int), by8 (((us.length : Nat) : Int) / 256), UInt8.ofNat 1], S.cs, S.bg⟩ : LS) = Th := HTh.out.symm
              simp only [hLhe] at hLh
              have hYh : YS w w.heap.size #[.slice (some ra) n c, .int .i64 (U : Int)] wh := ⟨gh.bk (hown.alloc _) (HYp.out.k.alloc _) (by decide), HYp.out.b.trans (((Below.refl _ _).alloc hos _).trans bh)⟩
              have HYh := Lib.hid hYh
              have HLh := Lib.hid hLh
              obtain ⟨Adh, cdh, hdvh, -, -, -⟩ := own_form hLh.od
              subst hdvh
              clear oh oh' gh bh hown hos HLp HYp hLh hLxh hLhe hYh
              obtain ⟨S1, HS1, hS1b, hS1c, hS1g⟩ : ∃ S1 : LS, Hid (S1 = cut3 S) ∧ S1.b.length = S.b.length ∧ S1.cs.length ≤ S.b.length + 1 ∧ S1.bg ≤ S.b.length := ⟨_, Lib.hid rfl, by rw [cut3_b], by rw [HC3.out]; simp <;> omega, by rw [HC3.out]; simp <;> omega⟩
              have HS7 : Hid (Th = ⟨S1.b ++ headT l, S1.cs, S1.bg⟩) := Lib.hid (by rw [HTh.out, HS1.out, HC3.out, HT2.out]; rfl)
              have HG7 : Hid (Th.bg = S.bg) := Lib.hid (by rw [HTh.out])
              have HL7 := HLh
              have HY7 := HYh
              obtain ⟨M0, hM0⟩ : ∃ M0, S1.b.length + 3 = M0 := ⟨_, rfl⟩
              have hM1 : M0 ≤ 4000000 := by omega
              have hL7 := HL7.out
              have hY7 := HY7.out
              have hS7 : Th = ⟨S1.b ++ headT l, S1.cs, S1.bg⟩ := HS7.out
              have e7 : Th.b.length = M0 ∧ Th.cs.length ≤ Th.b.length ∧ Th.bg ≤ Th.b.length := by
                rw [hS7]
                simp only [List.length_append, headT_len]
                omega
              have HF7 : Hid (us.foldl (putU 1) Th = putT S l) := Lib.hid (by rw [HPT.out, HBT.out, hS7, HS1.out])
              clear hS7 HS7 hM0 HL7 HY7 HPT HBT HS1 HT2
              go_wp2
              go_loopw [5, 6, 8, 14] (fun s5 s6 s8 s14 wq => ∃ (k : Nat) (T : LS), k ≤ us.length ∧ s14 = .int .i64 k ∧ s8 = .int .i64 T.bg ∧ T.b.length ≤ M0 + 3 * k ∧ T.cs.length ≤ T.b.length ∧ T.bg ≤ T.b.length ∧ Hid ((us.drop k).foldl (putU 1) T = putT S l) ∧ L4 wq w.heap.size T (ps ++ [S.b.length]) us s5 s6 (.slice App (ps ++ [S.b.length]).length cpp) (.slice A2 us.length c2) ∧ YS w w.heap.size #[.slice (some ra) n c, .int .i64 (U : Int)] wq) (fun _ _ _ s14 _ => us.length - (Go.RowKit.intOf s14).toNat)
              case atStart => exact ⟨0, Th, Nat.zero_le _, rfl, by rw [HG7.out], by omega, by omega, by omega, Lib.hid HF7.out, hL7, hY7⟩
              case round =>
                clear hL7 hY7 HF7 e7
                obtain ⟨k, T, hk, rfl, rfl, ht1, ht2, ht3, HT, hL, hY⟩ := hrel
                by_cases hkn : k < us.length
                · have hkn' : (k : Int) < (us.length : Int) := by omega
                  obtain ⟨x, hx⟩ : ∃ x, us[k]? = some x := ⟨us[k]'(by omega), List.getElem?_eq_getElem _⟩
                  have hxb := HUB.out x (List.mem_of_getElem? hx)
                  have HX := Lib.hid hx
                  have HT3 : Hid ((us.drop (k + 1)).foldl (putU 1) (putU 1 T x) = putT S l) := Lib.hid (by
                    have hi := List.getElem?_eq_some_iff.1 hx
                    have := HT.out
                    rw [List.drop_eq_getElem_cons hi.1, hi.2, List.foldl_cons] at this
                    exact this)
                  obtain ⟨ht4, ht5⟩ := putU_bd (w := 1) (by omega) x ht2
                  obtain ⟨Ad, cd, hdv, -, -, -⟩ := own_form hL.od
                  obtain ⟨Ac, cc, hcv, -, -, -⟩ := own_form hL.oc
                  subst hdv hcv
                  have HY0 := Lib.hid hY
                  have HL0 := Lib.hid hL
                  clear HT hx hY hL
                  by_cases hcut : 224 < T.b.length - T.bg + 2
                  · have hcut' : (224 : Int) < (T.b.length : Int) - (T.bg : Int) + 2 := by omega
                    have HE2 := Lib.hid (putU_cut (k := 2) (w := 1) rfl x hcut)
                    clear hcut
                    have hown := HL0.out.oc
                    have hos := HY0.out.b.size
                    go_wp2_with (at_builtin; refine wpList_app intsRow rfl (.tmp 92) (.tmp 95) rfl rfl rfl (hown.alloc _) (Rd.fresh _ _ 1 1 _ rfl) ?_ ?_ ?_ ?_ ?_)
                    try any_goals first | rfl | (unfold maxLen; omega) | omega | (intro z hz; simp at hz; rcases hz with rfl <;> rfl) | (simp; omega)
                    intro va wa oa ga ba
                    have hLa := HL0.out.cut (x := (T.b.length : Int)) (q := T.b.length) ga oa
                    have hYa : YS w w.heap.size #[.slice (some ra) n c, .int .i64 (U : Int)] wa := ⟨ga.bk (hown.alloc _) (HY0.out.k.alloc _) (by decide), HY0.out.b.trans (((Below.refl _ _).alloc hos _).trans ba)⟩
                    have HYa := Lib.hid hYa
                    have HLa := Lib.hid hLa
                    obtain ⟨Aca, cca, hcva, -, -, -⟩ := own_form hLa.oc
                    simp only [List.length_append, List.length_singleton] at hcva
                    subst hcva
                    clear oa ga ba hown hos HL0 HY0 hLa hYa
                    have hown : wa.ownsRow w.heap.size 5 1 (.slice Ad T.b.length cd) T.b.length (T.b.map bv) := HLa.out.od
                    have hos := HYa.out.b.size
                    go_wp2_with (at_builtin; refine wpList_app bytesRow rfl (.tmp 99) (.tmp 103) rfl rfl rfl (hown.alloc _) (Rd.fresh _ _ 1 1 _ rfl) ?_ ?_ ?_ ?_ ?_)
                    try any_goals first | rfl | (unfold maxLen; omega) | omega | (intro z hz; simp at hz; rcases hz with rfl <;> rfl) | (simp; omega)
                    intro vb wb ob gb bb
                    have ob' : wb.ownsRow w.heap.size 5 1 vb (T.b.length + [UInt8.ofNat 1].length) (T.b.map bv ++ ([UInt8.ofNat 1] : List UInt8).map bv) := by
                      skip
                      exact ob
                    have hLxb := HLa.out.data (t := [UInt8.ofNat 1]) gb ob'
                    obtain ⟨Tb, HTb⟩ : ∃ Tb : LS, Hid (Tb = ⟨T.b ++ [UInt8.ofNat 1], T.cs ++ [(T.b.length : Int)], T.b.length⟩) := ⟨_, Lib.hid rfl⟩
                    have hqb : Tb.b.length ≤ M0 + 3 * k + 1 := by rw [HTb.out]; simp <;> omega
                    have hLb := hLxb
                    have hLbe : (⟨T.b ++ [UInt8.ofNat 1], T.cs ++ [(T.b.length : Int)], T.b.length⟩ : LS) = Tb := HTb.out.symm
                    simp only [hLbe] at hLb
                    have hYb : YS w w.heap.size #[.slice (some ra) n c, .int .i64 (U : Int)] wb := ⟨gb.bk (hown.alloc _) (HYa.out.k.alloc _) (by decide), HYa.out.b.trans (((Below.refl _ _).alloc hos _).trans bb)⟩
                    have HYb := Lib.hid hYb
                    have HLb := Lib.hid hLb
                    obtain ⟨Adb, cdb, hdvb, -, -, -⟩ := own_form hLb.od
                    subst hdvb
                    clear ob ob' gb bb hown hos HLa HYa hLb hLxb hLbe hYb
                    have rU := own_form_rd HLb.out.ou
                    obtain ⟨aU, x', rfl, hx', hcx⟩ := icell rU hkn
                    obtain rfl : x = x' := Option.some.inj (HX.out.symm.trans hx')
                    clear rU hx'
                    have hown : wb.ownsRow w.heap.size 5 1 (.slice Adb Tb.b.length cdb) Tb.b.length (Tb.b.map bv) := HLb.out.od
                    have hos := HYb.out.b.size
                    go_wp2_with (at_builtin; refine wpList_app bytesRow rfl (.tmp 105) (.tmp 111) rfl rfl rfl (hown.alloc _) (Rd.fresh _ _ 1 1 _ rfl) ?_ ?_ ?_ ?_ ?_)
                    try any_goals first | rfl | (unfold maxLen; omega) | omega | (intro z hz; simp at hz; rcases hz with rfl <;> rfl) | (simp; omega)
                    intro vc wc oc gc bc
                    have oc' : wc.ownsRow w.heap.size 5 1 vc (Tb.b.length + [by8 x].length) (Tb.b.map bv ++ ([by8 x] : List UInt8).map bv) := by
                      rw [List.map_cons, List.map_nil, bv_by8]
                      exact oc
                    have hLxc := HLb.out.data (t := [by8 x]) gc oc'
                    obtain ⟨Tc, HTc⟩ : ∃ Tc : LS, Hid (Tc = ⟨Tb.b ++ [by8 x], Tb.cs, Tb.bg⟩) := ⟨_, Lib.hid rfl⟩
                    have hqc : Tc.b.length ≤ M0 + 3 * k + 1 + 1 := by rw [HTc.out]; simp <;> omega
                    have hLc := hLxc
                    have hLce : (⟨Tb.b ++ [by8 x], Tb.cs, Tb.bg⟩ : LS) = Tc := HTc.out.symm
                    simp only [hLce] at hLc
                    have hYc : YS w w.heap.size #[.slice (some ra) n c, .int .i64 (U : Int)] wc := ⟨gc.bk (hown.alloc _) (HYb.out.k.alloc _) (by decide), HYb.out.b.trans (((Below.refl _ _).alloc hos _).trans bc)⟩
                    have HYc := Lib.hid hYc
                    have HLc := Lib.hid hLc
                    obtain ⟨Adc, cdc, hdvc, -, -, -⟩ := own_form hLc.od
                    subst hdvc
                    clear oc oc' gc bc hown hos HLb HYb hLc hLxc hLce hYc hcx
                    have rU := own_form_rd HLc.out.ou
                    obtain ⟨aU2, x', hau, hx', hcx⟩ := icell rU hkn
                    injection hau with hau
                    subst hau
                    obtain rfl : x = x' := Option.some.inj (HX.out.symm.trans hx')
                    clear rU hx'
                    have hown : wc.ownsRow w.heap.size 5 1 (.slice Adc Tc.b.length cdc) Tc.b.length (Tc.b.map bv) := HLc.out.od
                    have hos := HYc.out.b.size
                    go_wp2_with (at_builtin; refine wpList_app bytesRow rfl (.tmp 115) (.tmp 122) rfl rfl rfl (hown.alloc _) (Rd.fresh _ _ 1 1 _ rfl) ?_ ?_ ?_ ?_ ?_)
                    try any_goals first | rfl | (unfold maxLen; omega) | omega | (intro z hz; simp at hz; rcases hz with rfl <;> rfl) | (simp; omega)
                    intro vd wd od gd bd
                    have od' : wd.ownsRow w.heap.size 5 1 vd (Tc.b.length + [by8 (x / 256)].length) (Tc.b.map bv ++ ([by8 (x / 256)] : List UInt8).map bv) := by
                      rw [List.map_cons, List.map_nil, bv_by8, show x / 256 % 256 = x / 256 by omega]
                      exact od
                    have hLxd := HLc.out.data (t := [by8 (x / 256)]) gd od'
                    obtain ⟨Td, HTd⟩ : ∃ Td : LS, Hid (Td = ⟨Tc.b ++ [by8 (x / 256)], Tc.cs, Tc.bg⟩) := ⟨_, Lib.hid rfl⟩
                    have hqd : Td.b.length ≤ M0 + 3 * k + 1 + 2 := by rw [HTd.out]; simp <;> omega
                    have hLd := hLxd
                    have hLde : (⟨Tc.b ++ [by8 (x / 256)], Tc.cs, Tc.bg⟩ : LS) = Td := HTd.out.symm
                    simp only [hLde] at hLd
                    have hYd : YS w w.heap.size #[.slice (some ra) n c, .int .i64 (U : Int)] wd := ⟨gd.bk (hown.alloc _) (HYc.out.k.alloc _) (by decide), HYc.out.b.trans (((Below.refl _ _).alloc hos _).trans bd)⟩
                    have HYd := Lib.hid hYd
                    have HLd := Lib.hid hLd
                    obtain ⟨Add, cdd, hdvd, -, -, -⟩ := own_form hLd.od
                    subst hdvd
                    clear od od' gd bd hown hos HLc HYc hLd hLxd hLde hYd hcx
                    have HY9 := HYd
                    have HL9 := HLd
                    have HQ9 : Hid (Td = putU 1 T x) := Lib.hid (by
                      rw [HE2.out]
                      simp only [HTd.out]; simp only [HTc.out]; simp only [HTb.out]
                      simp [ub])
                    clear HTb HTc HTd
                    go_wp2
                    go_roundw
                    case rel => exact ⟨k + 1, Td, by omega, by go_num, by rw [HQ9.out, HE2.out], by rw [HQ9.out]; omega, by rw [HQ9.out]; exact ht5, by rw [HQ9.out, HE2.out]; simp [ub] <;> omega, Lib.hid (by rw [HQ9.out]; exact HT3.out), HL9.out, HY9.out⟩
                    case measure => simp [Go.RowKit.intOf]; omega
                  · have hcut' : ¬ (224 : Int) < (T.b.length : Int) - (T.bg : Int) + 2 := by omega
                    have HE2 := Lib.hid (putU_go (k := 2) (w := 1) rfl x hcut)
                    clear hcut
                    have rU := own_form_rd HL0.out.ou
                    obtain ⟨aU, x', rfl, hx', hcx⟩ := icell rU hkn
                    obtain rfl : x = x' := Option.some.inj (HX.out.symm.trans hx')
                    clear rU hx'
                    have hown := HL0.out.od
                    have hos := HY0.out.b.size
                    go_wp2_with (at_builtin; refine wpList_app bytesRow rfl (.tmp 105) (.tmp 111) rfl rfl rfl (hown.alloc _) (Rd.fresh _ _ 1 1 _ rfl) ?_ ?_ ?_ ?_ ?_)
                    try any_goals first | rfl | (unfold maxLen; omega) | omega | (intro z hz; simp at hz; rcases hz with rfl <;> rfl) | (simp; omega)
                    intro vc wc oc gc bc
                    have oc' : wc.ownsRow w.heap.size 5 1 vc (T.b.length + [by8 x].length) (T.b.map bv ++ ([by8 x] : List UInt8).map bv) := by
                      rw [List.map_cons, List.map_nil, bv_by8]
                      exact oc
                    have hLxc := HL0.out.data (t := [by8 x]) gc oc'
                    obtain ⟨Tc, HTc⟩ : ∃ Tc : LS, Hid (Tc = ⟨T.b ++ [by8 x], T.cs, T.bg⟩) := ⟨_, Lib.hid rfl⟩
                    have hqc : Tc.b.length ≤ M0 + 3 * k + 1 := by rw [HTc.out]; simp <;> omega
                    have hLc := hLxc
                    have hLce : (⟨T.b ++ [by8 x], T.cs, T.bg⟩ : LS) = Tc := HTc.out.symm
                    simp only [hLce] at hLc
                    have hYc : YS w w.heap.size #[.slice (some ra) n c, .int .i64 (U : Int)] wc := ⟨gc.bk (hown.alloc _) (HY0.out.k.alloc _) (by decide), HY0.out.b.trans (((Below.refl _ _).alloc hos _).trans bc)⟩
                    have HYc := Lib.hid hYc
                    have HLc := Lib.hid hLc
                    obtain ⟨Adc, cdc, hdvc, -, -, -⟩ := own_form hLc.od
                    subst hdvc
                    clear oc oc' gc bc hown hos HL0 HY0 hLc hLxc hLce hYc hcx
                    have rU := own_form_rd HLc.out.ou
                    obtain ⟨aU2, x', hau, hx', hcx⟩ := icell rU hkn
                    injection hau with hau
                    subst hau
                    obtain rfl : x = x' := Option.some.inj (HX.out.symm.trans hx')
                    clear rU hx'
                    have hown : wc.ownsRow w.heap.size 5 1 (.slice Adc Tc.b.length cdc) Tc.b.length (Tc.b.map bv) := HLc.out.od
                    have hos := HYc.out.b.size
                    go_wp2_with (at_builtin; refine wpList_app bytesRow rfl (.tmp 115) (.tmp 122) rfl rfl rfl (hown.alloc _) (Rd.fresh _ _ 1 1 _ rfl) ?_ ?_ ?_ ?_ ?_)
                    try any_goals first | rfl | (unfold maxLen; omega) | omega | (intro z hz; simp at hz; rcases hz with rfl <;> rfl) | (simp; omega)
                    intro vd wd od gd bd
                    have od' : wd.ownsRow w.heap.size 5 1 vd (Tc.b.length + [by8 (x / 256)].length) (Tc.b.map bv ++ ([by8 (x / 256)] : List UInt8).map bv) := by
                      rw [List.map_cons, List.map_nil, bv_by8, show x / 256 % 256 = x / 256 by omega]
                      exact od
                    have hLxd := HLc.out.data (t := [by8 (x / 256)]) gd od'
                    obtain ⟨Td, HTd⟩ : ∃ Td : LS, Hid (Td = ⟨Tc.b ++ [by8 (x / 256)], Tc.cs, Tc.bg⟩) := ⟨_, Lib.hid rfl⟩
                    have hqd : Td.b.length ≤ M0 + 3 * k + 2 := by rw [HTd.out]; simp <;> omega
                    have hLd := hLxd
                    have hLde : (⟨Tc.b ++ [by8 (x / 256)], Tc.cs, Tc.bg⟩ : LS) = Td := HTd.out.symm
                    simp only [hLde] at hLd
                    have hYd : YS w w.heap.size #[.slice (some ra) n c, .int .i64 (U : Int)] wd := ⟨gd.bk (hown.alloc _) (HYc.out.k.alloc _) (by decide), HYc.out.b.trans (((Below.refl _ _).alloc hos _).trans bd)⟩
                    have HYd := Lib.hid hYd
                    have HLd := Lib.hid hLd
                    obtain ⟨Add, cdd, hdvd, -, -, -⟩ := own_form hLd.od
                    subst hdvd
                    clear od od' gd bd hown hos HLc HYc hLd hLxd hLde hYd hcx
                    have HY9 := HYd
                    have HL9 := HLd
                    have HQ9 : Hid (Td = putU 1 T x) := Lib.hid (by
                      rw [HE2.out]
                      simp only [HTd.out]; simp only [HTc.out]
                      simp [ub])
                    clear HTc HTd
                    go_wp2
                    go_roundw
                    case rel => exact ⟨k + 1, Td, by omega, by go_num, by rw [HQ9.out, HE2.out], by rw [HQ9.out]; omega, by rw [HQ9.out]; exact ht5, by rw [HQ9.out, HE2.out]; simp [ub] <;> omega, Lib.hid (by rw [HQ9.out]; exact HT3.out), HL9.out, HY9.out⟩
                    case measure => simp [Go.RowKit.intOf]; omega
                · obtain rfl : us.length = k := by omega
                  have hHT := HT.out
                  rw [List.drop_eq_nil_of_le (by omega)] at hHT
                  have hTT : T = putT S l := hHT
                  have HL9 := Lib.hid hL.none
                  have HY9 := Lib.hid hY
                  have HT9 := Lib.hid hTT
                  obtain ⟨Ad, cd, hdv, -, -, -⟩ := own_form hL.od
                  obtain ⟨Ac, cc, hcv, -, -, -⟩ := own_form hL.oc
                  subst hdv hcv
                  clear HT hL hY hkn hHT hTT
                  go_wp2
                  go_roundw
                  case rel => exact ⟨i + 1, T, ps ++ [S.b.length], by omega, by go_num, by first | rfl | trivial, Lib.hid (by rw [HS2.out, HT9.out]), Lib.hid HPS2.out, by have := HL9.out; rwa [show (ps ++ [S.b.length]).length = ps.length + 1 by simp] at this, HY9.out⟩
                  case measure => simp [Go.RowKit.intOf]; omega
          · rw [hN] at HFL hnb
            have hfl : flT l = 0 := HFL.out
            rw [hfl] at HT2 HPT
            go_wp2_with fail
            refine hnb.mono ?_
            rintro e w3 ⟨rfl, b3⟩
            dsimp only
            have hL3 := hL2.below b3
            have hY3 := hY2.below b3
            clear HRN hnb hL2 hY2 hcell2 c10 b3
            obtain ⟨Ad3, cd3, hdv3, -, -, -⟩ := own_form hL3.od
            obtain ⟨Ac3, cc3, hcv3, -, -, -⟩ := own_form hL3.oc
            obtain ⟨Ap3, cp3, hpv3, -, -, -⟩ := own_form hL3.op
            subst hdv3 hcv3 hpv3
            have HL3 := Lib.hid hL3
            have HY3 := Lib.hid hY3
            clear hL3 hY3
            by_cases hcut : 224 < S.b.length - S.bg + 3
            · have hcut' : (224 : Int) < (S.b.length : Int) - (S.bg : Int) + 3 := by omega
              have HC3 : Hid (cut3 S = ⟨S.b, S.cs ++ [(S.b.length : Int)], S.b.length⟩) := Lib.hid (by unfold cut3; rw [if_pos hcut])
              clear hcut
              have hown := HL3.out.oc
              have hos := HY3.out.b.size
              go_wp2_with (at_builtin; refine wpList_app intsRow rfl (.tmp 54) (.tmp 57) rfl rfl rfl (hown.alloc _) (Rd.fresh _ _ 1 1 _ rfl) ?_ ?_ ?_ ?_ ?_)
              try any_goals first | rfl | (unfold maxLen; omega) | omega | (intro z hz; simp at hz; rcases hz with rfl <;> rfl) | (simp; omega)
              intro vx wx ox gx bx
              have hLx := HL3.out.cut (x := (S.b.length : Int)) (q := S.b.length) gx ox
              have hYx : YS w w.heap.size #[.slice (some ra) n c, .int .i64 (U : Int)] wx := ⟨gx.bk (hown.alloc _) (HY3.out.k.alloc _) (by decide), HY3.out.b.trans (((Below.refl _ _).alloc hos _).trans bx)⟩
              have HYx := Lib.hid hYx
              have HLx := Lib.hid hLx
              obtain ⟨Acx, ccx, hcvx, -, -, -⟩ := own_form hLx.oc
              simp only [List.length_append, List.length_singleton] at hcvx
              subst hcvx
              clear ox gx bx hown hos HL3 HY3 hLx hYx
              have hown := HLx.out.op
              have hos := HYx.out.b.size
              go_wp2_with (at_builtin; refine wpList_app intsRow rfl (.tmp 61) (.tmp 64) rfl rfl rfl (hown.alloc _) (Rd.fresh _ _ 1 1 _ rfl) ?_ ?_ ?_ ?_ ?_)
              try any_goals first | rfl | (unfold maxLen; omega) | omega | (intro z hz; simp at hz; rcases hz with rfl <;> rfl) | (simp; omega)
              intro vp wp op gp bp
              have hLp := HLx.out.place (x := S.b.length) gp op
              have hYp : YS w w.heap.size #[.slice (some ra) n c, .int .i64 (U : Int)] wp := ⟨gp.bk (hown.alloc _) (HYx.out.k.alloc _) (by decide), HYx.out.b.trans (((Below.refl _ _).alloc hos _).trans bp)⟩
              have HYp := Lib.hid hYp
              have HLp := Lib.hid hLp
              obtain ⟨App, cpp, hpvp, -, -, -⟩ := own_form hLp.op
              subst hpvp
              clear op gp bp hown hos HLx HYx hLp hYp
              have hown : wp.ownsRow w.heap.size 5 1 (.slice Ad3 S.b.length cd3) S.b.length (S.b.map bv) := HLp.out.od
              have hos := HYp.out.b.size
              go_wp2_with (at_builtin; refine wpList_app bytesRow rfl (.tmp 66) (.tmp 77) rfl rfl rfl (hown.alloc _) (Rd.fresh _ _ 1 3 _ rfl) ?_ ?_ ?_ ?_ ?_)
              try any_goals first | rfl | (unfold maxLen; omega) | omega | (intro z hz; simp at hz; rcases hz with rfl | rfl | rfl <;> rfl) | (simp; omega)
              intro vh wh oh gh bh
              have oh' : wh.ownsRow w.heap.size 5 1 vh (S.b.length + [by8 ((us.length : Nat) : Int), by8 (((us.length : Nat) : Int) / 256), UInt8.ofNat 0].length) (S.b.map bv ++ ([by8 ((us.length : Nat) : Int), by8 (((us.length : Nat) : Int) / 256), UInt8.ofNat 0] : List UInt8).map bv) := by
                rw [head_vals (by omega) (by omega)]
                exact oh
              have hLxh := HLp.out.data (t := [by8 ((us.length : Nat) : Int), by8 (((us.length : Nat) : Int) / 256), UInt8.ofNat 0]) gh oh'
              obtain ⟨Th, HTh⟩ : ∃ Th : LS, Hid (Th = ⟨S.b ++ [by8 ((us.length : Nat) : Int), by8 (((us.length : Nat) : Int) / 256), UInt8.ofNat 0], S.cs ++ [(S.b.length : Int)], S.b.length⟩) := ⟨_, Lib.hid rfl⟩
              have hqh : Th.b.length ≤ S.b.length + 3 := by rw [HTh.out]; simp <;> omega
              have hLh := hLxh
              have hLhe : (⟨S.b ++ [by8 ((us.length : Nat) : Int), by8 (((us.length : Nat) : Int) / 256), UInt8.ofNat 0], S.cs ++ [(S.b.length : Int)], S.b.length⟩ : LS) = Th := HTh.out.symm
              simp only [hLhe] at hLh
              have hYh : YS w w.heap.size #[.slice (some ra) n c, .int .i64 (U : Int)] wh := ⟨gh.bk (hown.alloc _) (HYp.out.k.alloc _) (by decide), HYp.out.b.trans (((Below.refl _ _).alloc hos _).trans bh)⟩
              have HYh := Lib.hid hYh
              have HLh := Lib.hid hLh
              obtain ⟨Adh, cdh, hdvh, -, -, -⟩ := own_form hLh.od
              subst hdvh
              clear oh oh' gh bh hown hos HLp HYp hLh hLxh hLhe hYh
              obtain ⟨S1, HS1, hS1b, hS1c, hS1g⟩ : ∃ S1 : LS, Hid (S1 = cut3 S) ∧ S1.b.length = S.b.length ∧ S1.cs.length ≤ S.b.length + 1 ∧ S1.bg ≤ S.b.length := ⟨_, Lib.hid rfl, by rw [cut3_b], by rw [HC3.out]; simp <;> omega, by rw [HC3.out]; simp <;> omega⟩
              have HS7 : Hid (Th = ⟨S1.b ++ headT l, S1.cs, S1.bg⟩) := Lib.hid (by rw [HTh.out, HS1.out, HC3.out, HT2.out]; rfl)
              have HG7 : Hid (Th.bg = S.b.length) := Lib.hid (by rw [HTh.out])
              have HL7 := HLh
              have HY7 := HYh
              obtain ⟨M0, hM0⟩ : ∃ M0, S1.b.length + 3 = M0 := ⟨_, rfl⟩
              have hM1 : M0 ≤ 4000000 := by omega
              have hL7 := HL7.out
              have hY7 := HY7.out
              have hS7 : Th = ⟨S1.b ++ headT l, S1.cs, S1.bg⟩ := HS7.out
              have e7 : Th.b.length = M0 ∧ Th.cs.length ≤ Th.b.length ∧ Th.bg ≤ Th.b.length := by
                rw [hS7]
                simp only [List.length_append, headT_len]
                omega
              have HF7 : Hid (us.foldl (putU 0) Th = putT S l) := Lib.hid (by rw [HPT.out, HBT.out, hS7, HS1.out])
              clear hS7 HS7 hM0 HL7 HY7 HPT HBT HS1 HT2
              go_wp2
              go_loopw [5, 6, 8, 14] (fun s5 s6 s8 s14 wq => ∃ (k : Nat) (T : LS), k ≤ us.length ∧ s14 = .int .i64 k ∧ s8 = .int .i64 T.bg ∧ T.b.length ≤ M0 + 3 * k ∧ T.cs.length ≤ T.b.length ∧ T.bg ≤ T.b.length ∧ Hid ((us.drop k).foldl (putU 0) T = putT S l) ∧ L4 wq w.heap.size T (ps ++ [S.b.length]) us s5 s6 (.slice App (ps ++ [S.b.length]).length cpp) (.slice A2 us.length c2) ∧ YS w w.heap.size #[.slice (some ra) n c, .int .i64 (U : Int)] wq) (fun _ _ _ s14 _ => us.length - (Go.RowKit.intOf s14).toNat)
              case atStart => exact ⟨0, Th, Nat.zero_le _, rfl, by rw [HG7.out], by omega, by omega, by omega, Lib.hid HF7.out, hL7, hY7⟩
              case round =>
                clear hL7 hY7 HF7 e7
                obtain ⟨k, T, hk, rfl, rfl, ht1, ht2, ht3, HT, hL, hY⟩ := hrel
                by_cases hkn : k < us.length
                · have hkn' : (k : Int) < (us.length : Int) := by omega
                  obtain ⟨x, hx⟩ : ∃ x, us[k]? = some x := ⟨us[k]'(by omega), List.getElem?_eq_getElem _⟩
                  have hxb := HUB.out x (List.mem_of_getElem? hx)
                  have HX := Lib.hid hx
                  have HT3 : Hid ((us.drop (k + 1)).foldl (putU 0) (putU 0 T x) = putT S l) := Lib.hid (by
                    have hi := List.getElem?_eq_some_iff.1 hx
                    have := HT.out
                    rw [List.drop_eq_getElem_cons hi.1, hi.2, List.foldl_cons] at this
                    exact this)
                  obtain ⟨ht4, ht5⟩ := putU_bd (w := 0) (by omega) x ht2
                  obtain ⟨Ad, cd, hdv, -, -, -⟩ := own_form hL.od
                  obtain ⟨Ac, cc, hcv, -, -, -⟩ := own_form hL.oc
                  subst hdv hcv
                  have HY0 := Lib.hid hY
                  have HL0 := Lib.hid hL
                  clear HT hx hY hL
                  by_cases hcut : 224 < T.b.length - T.bg + 1
                  · have hcut' : (224 : Int) < (T.b.length : Int) - (T.bg : Int) + 1 := by omega
                    have HE2 := Lib.hid (putU_cut (k := 1) (w := 0) rfl x hcut)
                    clear hcut
                    have hown := HL0.out.oc
                    have hos := HY0.out.b.size
                    go_wp2_with (at_builtin; refine wpList_app intsRow rfl (.tmp 92) (.tmp 95) rfl rfl rfl (hown.alloc _) (Rd.fresh _ _ 1 1 _ rfl) ?_ ?_ ?_ ?_ ?_)
                    try any_goals first | rfl | (unfold maxLen; omega) | omega | (intro z hz; simp at hz; rcases hz with rfl <;> rfl) | (simp; omega)
                    intro va wa oa ga ba
                    have hLa := HL0.out.cut (x := (T.b.length : Int)) (q := T.b.length) ga oa
                    have hYa : YS w w.heap.size #[.slice (some ra) n c, .int .i64 (U : Int)] wa := ⟨ga.bk (hown.alloc _) (HY0.out.k.alloc _) (by decide), HY0.out.b.trans (((Below.refl _ _).alloc hos _).trans ba)⟩
                    have HYa := Lib.hid hYa
                    have HLa := Lib.hid hLa
                    obtain ⟨Aca, cca, hcva, -, -, -⟩ := own_form hLa.oc
                    simp only [List.length_append, List.length_singleton] at hcva
                    subst hcva
                    clear oa ga ba hown hos HL0 HY0 hLa hYa
                    have hown : wa.ownsRow w.heap.size 5 1 (.slice Ad T.b.length cd) T.b.length (T.b.map bv) := HLa.out.od
                    have hos := HYa.out.b.size
                    go_wp2_with (at_builtin; refine wpList_app bytesRow rfl (.tmp 99) (.tmp 103) rfl rfl rfl (hown.alloc _) (Rd.fresh _ _ 1 1 _ rfl) ?_ ?_ ?_ ?_ ?_)
                    try any_goals first | rfl | (unfold maxLen; omega) | omega | (intro z hz; simp at hz; rcases hz with rfl <;> rfl) | (simp; omega)
                    intro vb wb ob gb bb
                    have ob' : wb.ownsRow w.heap.size 5 1 vb (T.b.length + [UInt8.ofNat 0].length) (T.b.map bv ++ ([UInt8.ofNat 0] : List UInt8).map bv) := by
                      skip
                      exact ob
                    have hLxb := HLa.out.data (t := [UInt8.ofNat 0]) gb ob'
                    obtain ⟨Tb, HTb⟩ : ∃ Tb : LS, Hid (Tb = ⟨T.b ++ [UInt8.ofNat 0], T.cs ++ [(T.b.length : Int)], T.b.length⟩) := ⟨_, Lib.hid rfl⟩
                    have hqb : Tb.b.length ≤ M0 + 3 * k + 1 := by rw [HTb.out]; simp <;> omega
                    have hLb := hLxb
                    have hLbe : (⟨T.b ++ [UInt8.ofNat 0], T.cs ++ [(T.b.length : Int)], T.b.length⟩ : LS) = Tb := HTb.out.symm
                    simp only [hLbe] at hLb
                    have hYb : YS w w.heap.size #[.slice (some ra) n c, .int .i64 (U : Int)] wb := ⟨gb.bk (hown.alloc _) (HYa.out.k.alloc _) (by decide), HYa.out.b.trans (((Below.refl _ _).alloc hos _).trans bb)⟩
                    have HYb := Lib.hid hYb
                    have HLb := Lib.hid hLb
                    obtain ⟨Adb, cdb, hdvb, -, -, -⟩ := own_form hLb.od
                    subst hdvb
                    clear ob ob' gb bb hown hos HLa HYa hLb hLxb hLbe hYb
                    have rU := own_form_rd HLb.out.ou
                    obtain ⟨aU, x', rfl, hx', hcx⟩ := icell rU hkn
                    obtain rfl : x = x' := Option.some.inj (HX.out.symm.trans hx')
                    clear rU hx'
                    have hown : wb.ownsRow w.heap.size 5 1 (.slice Adb Tb.b.length cdb) Tb.b.length (Tb.b.map bv) := HLb.out.od
                    have hos := HYb.out.b.size
                    go_wp2_with (at_builtin; refine wpList_app bytesRow rfl (.tmp 105) (.tmp 111) rfl rfl rfl (hown.alloc _) (Rd.fresh _ _ 1 1 _ rfl) ?_ ?_ ?_ ?_ ?_)
                    try any_goals first | rfl | (unfold maxLen; omega) | omega | (intro z hz; simp at hz; rcases hz with rfl <;> rfl) | (simp; omega)
                    intro vc wc oc gc bc
                    have oc' : wc.ownsRow w.heap.size 5 1 vc (Tb.b.length + [by8 x].length) (Tb.b.map bv ++ ([by8 x] : List UInt8).map bv) := by
                      rw [List.map_cons, List.map_nil, bv_by8]
                      exact oc
                    have hLxc := HLb.out.data (t := [by8 x]) gc oc'
                    obtain ⟨Tc, HTc⟩ : ∃ Tc : LS, Hid (Tc = ⟨Tb.b ++ [by8 x], Tb.cs, Tb.bg⟩) := ⟨_, Lib.hid rfl⟩
                    have hqc : Tc.b.length ≤ M0 + 3 * k + 1 + 1 := by rw [HTc.out]; simp <;> omega
                    have hLc := hLxc
                    have hLce : (⟨Tb.b ++ [by8 x], Tb.cs, Tb.bg⟩ : LS) = Tc := HTc.out.symm
                    simp only [hLce] at hLc
                    have hYc : YS w w.heap.size #[.slice (some ra) n c, .int .i64 (U : Int)] wc := ⟨gc.bk (hown.alloc _) (HYb.out.k.alloc _) (by decide), HYb.out.b.trans (((Below.refl _ _).alloc hos _).trans bc)⟩
                    have HYc := Lib.hid hYc
                    have HLc := Lib.hid hLc
                    obtain ⟨Adc, cdc, hdvc, -, -, -⟩ := own_form hLc.od
                    subst hdvc
                    clear oc oc' gc bc hown hos HLb HYb hLc hLxc hLce hYc hcx
                    have HY9 := HYc
                    have HL9 := HLc
                    have HQ9 : Hid (Tc = putU 0 T x) := Lib.hid (by
                      rw [HE2.out]
                      simp only [HTc.out]; simp only [HTb.out]
                      simp [ub])
                    clear HTb HTc
                    go_wp2
                    go_roundw
                    case rel => exact ⟨k + 1, Tc, by omega, by go_num, by rw [HQ9.out, HE2.out], by rw [HQ9.out]; omega, by rw [HQ9.out]; exact ht5, by rw [HQ9.out, HE2.out]; simp [ub] <;> omega, Lib.hid (by rw [HQ9.out]; exact HT3.out), HL9.out, HY9.out⟩
                    case measure => simp [Go.RowKit.intOf]; omega
                  · have hcut' : ¬ (224 : Int) < (T.b.length : Int) - (T.bg : Int) + 1 := by omega
                    have HE2 := Lib.hid (putU_go (k := 1) (w := 0) rfl x hcut)
                    clear hcut
                    have rU := own_form_rd HL0.out.ou
                    obtain ⟨aU, x', rfl, hx', hcx⟩ := icell rU hkn
                    obtain rfl : x = x' := Option.some.inj (HX.out.symm.trans hx')
                    clear rU hx'
                    have hown := HL0.out.od
                    have hos := HY0.out.b.size
                    go_wp2_with (at_builtin; refine wpList_app bytesRow rfl (.tmp 105) (.tmp 111) rfl rfl rfl (hown.alloc _) (Rd.fresh _ _ 1 1 _ rfl) ?_ ?_ ?_ ?_ ?_)
                    try any_goals first | rfl | (unfold maxLen; omega) | omega | (intro z hz; simp at hz; rcases hz with rfl <;> rfl) | (simp; omega)
                    intro vc wc oc gc bc
                    have oc' : wc.ownsRow w.heap.size 5 1 vc (T.b.length + [by8 x].length) (T.b.map bv ++ ([by8 x] : List UInt8).map bv) := by
                      rw [List.map_cons, List.map_nil, bv_by8]
                      exact oc
                    have hLxc := HL0.out.data (t := [by8 x]) gc oc'
                    obtain ⟨Tc, HTc⟩ : ∃ Tc : LS, Hid (Tc = ⟨T.b ++ [by8 x], T.cs, T.bg⟩) := ⟨_, Lib.hid rfl⟩
                    have hqc : Tc.b.length ≤ M0 + 3 * k + 1 := by rw [HTc.out]; simp <;> omega
                    have hLc := hLxc
                    have hLce : (⟨T.b ++ [by8 x], T.cs, T.bg⟩ : LS) = Tc := HTc.out.symm
                    simp only [hLce] at hLc
                    have hYc : YS w w.heap.size #[.slice (some ra) n c, .int .i64 (U : Int)] wc := ⟨gc.bk (hown.alloc _) (HY0.out.k.alloc _) (by decide), HY0.out.b.trans (((Below.refl _ _).alloc hos _).trans bc)⟩
                    have HYc := Lib.hid hYc
                    have HLc := Lib.hid hLc
                    obtain ⟨Adc, cdc, hdvc, -, -, -⟩ := own_form hLc.od
                    subst hdvc
                    clear oc oc' gc bc hown hos HL0 HY0 hLc hLxc hLce hYc hcx
                    have HY9 := HYc
                    have HL9 := HLc
                    have HQ9 : Hid (Tc = putU 0 T x) := Lib.hid (by
                      rw [HE2.out]
                      simp only [HTc.out]
                      simp [ub])
                    clear HTc
                    go_wp2
                    go_roundw
                    case rel => exact ⟨k + 1, Tc, by omega, by go_num, by rw [HQ9.out, HE2.out], by rw [HQ9.out]; omega, by rw [HQ9.out]; exact ht5, by rw [HQ9.out, HE2.out]; simp [ub] <;> omega, Lib.hid (by rw [HQ9.out]; exact HT3.out), HL9.out, HY9.out⟩
                    case measure => simp [Go.RowKit.intOf]; omega
                · obtain rfl : us.length = k := by omega
                  have hHT := HT.out
                  rw [List.drop_eq_nil_of_le (by omega)] at hHT
                  have hTT : T = putT S l := hHT
                  have HL9 := Lib.hid hL.none
                  have HY9 := Lib.hid hY
                  have HT9 := Lib.hid hTT
                  obtain ⟨Ad, cd, hdv, -, -, -⟩ := own_form hL.od
                  obtain ⟨Ac, cc, hcv, -, -, -⟩ := own_form hL.oc
                  subst hdv hcv
                  clear HT hL hY hkn hHT hTT
                  go_wp2
                  go_roundw
                  case rel => exact ⟨i + 1, T, ps ++ [S.b.length], by omega, by go_num, by first | rfl | trivial, Lib.hid (by rw [HS2.out, HT9.out]), Lib.hid HPS2.out, by have := HL9.out; rwa [show (ps ++ [S.b.length]).length = ps.length + 1 by simp] at this, HY9.out⟩
                  case measure => simp [Go.RowKit.intOf]; omega
            · have hcut' : ¬ (224 : Int) < (S.b.length : Int) - (S.bg : Int) + 3 := by omega
              have HC3 : Hid (cut3 S = ⟨S.b, S.cs, S.bg⟩) := Lib.hid (by unfold cut3; rw [if_neg hcut])
              clear hcut
              have hown := HL3.out.op
              have hos := HY3.out.b.size
              go_wp2_with (at_builtin; refine wpList_app intsRow rfl (.tmp 61) (.tmp 64) rfl rfl rfl (hown.alloc _) (Rd.fresh _ _ 1 1 _ rfl) ?_ ?_ ?_ ?_ ?_)
              try any_goals first | rfl | (unfold maxLen; omega) | omega | (intro z hz; simp at hz; rcases hz with rfl <;> rfl) | (simp; omega)
              intro vp wp op gp bp
              have hLp := HL3.out.place (x := S.b.length) gp op
              have hYp : YS w w.heap.size #[.slice (some ra) n c, .int .i64 (U : Int)] wp := ⟨gp.bk (hown.alloc _) (HY3.out.k.alloc _) (by decide), HY3.out.b.trans (((Below.refl _ _).alloc hos _).trans bp)⟩
              have HYp := Lib.hid hYp
              have HLp := Lib.hid hLp
              obtain ⟨App, cpp, hpvp, -, -, -⟩ := own_form hLp.op
              subst hpvp
              clear op gp bp hown hos HL3 HY3 hLp hYp
              have hown : wp.ownsRow w.heap.size 5 1 (.slice Ad3 S.b.length cd3) S.b.length (S.b.map bv) := HLp.out.od
              have hos := HYp.out.b.size
              go_wp2_with (at_builtin; refine wpList_app bytesRow rfl (.tmp 66) (.tmp 77) rfl rfl rfl (hown.alloc _) (Rd.fresh _ _ 1 3 _ rfl) ?_ ?_ ?_ ?_ ?_)
              try any_goals first | rfl | (unfold maxLen; omega) | omega | (intro z hz; simp at hz; rcases hz with rfl | rfl | rfl <;> rfl) | (simp; omega)
              intro vh wh oh gh bh
              have oh' : wh.ownsRow w.heap.size 5 1 vh (S.b.length + [by8 ((us.length : Nat) : Int), by8 (((us.length : Nat) : Int) / 256), UInt8.ofNat 0].length) (S.b.map bv ++ ([by8 ((us.length : Nat) : Int), by8 (((us.length : Nat) : Int) / 256), UInt8.ofNat 0] : List UInt8).map bv) := by
                rw [head_vals (by omega) (by omega)]
                exact oh
              have hLxh := HLp.out.data (t := [by8 ((us.length : Nat) : Int), by8 (((us.length : Nat) : Int) / 256), UInt8.ofNat 0]) gh oh'
              obtain ⟨Th, HTh⟩ : ∃ Th : LS, Hid (Th = ⟨S.b ++ [by8 ((us.length : Nat) : Int), by8 (((us.length : Nat) : Int) / 256), UInt8.ofNat 0], S.cs, S.bg⟩) := ⟨_, Lib.hid rfl⟩
              have hqh : Th.b.length ≤ S.b.length + 3 := by rw [HTh.out]; simp <;> omega
              have hLh := hLxh
              have hLhe : (⟨S.b ++ [by8 ((us.length : Nat) : Int), by8 (((us.length : Nat) : Int) / 256), UInt8.ofNat 0], S.cs, S.bg⟩ : LS) = Th := HTh.out.symm
              simp only [hLhe] at hLh
              have hYh : YS w w.heap.size #[.slice (some ra) n c, .int .i64 (U : Int)] wh := ⟨gh.bk (hown.alloc _) (HYp.out.k.alloc _) (by decide), HYp.out.b.trans (((Below.refl _ _).alloc hos _).trans bh)⟩
              have HYh := Lib.hid hYh
              have HLh := Lib.hid hLh
              obtain ⟨Adh, cdh, hdvh, -, -, -⟩ := own_form hLh.od
              subst hdvh
              clear oh oh' gh bh hown hos HLp HYp hLh hLxh hLhe hYh
              obtain ⟨S1, HS1, hS1b, hS1c, hS1g⟩ : ∃ S1 : LS, Hid (S1 = cut3 S) ∧ S1.b.length = S.b.length ∧ S1.cs.length ≤ S.b.length + 1 ∧ S1.bg ≤ S.b.length := ⟨_, Lib.hid rfl, by rw [cut3_b], by rw [HC3.out]; simp <;> omega, by rw [HC3.out]; simp <;> omega⟩
              have HS7 : Hid (Th = ⟨S1.b ++ headT l, S1.cs, S1.bg⟩) := Lib.hid (by rw [HTh.out, HS1.out, HC3.out, HT2.out]; rfl)
              have HG7 : Hid (Th.bg = S.bg) := Lib.hid (by rw [HTh.out])
              have HL7 := HLh
              have HY7 := HYh
              obtain ⟨M0, hM0⟩ : ∃ M0, S1.b.length + 3 = M0 := ⟨_, rfl⟩
              have hM1 : M0 ≤ 4000000 := by omega
              have hL7 := HL7.out
              have hY7 := HY7.out
              have hS7 : Th = ⟨S1.b ++ headT l, S1.cs, S1.bg⟩ := HS7.out
              have e7 : Th.b.length = M0 ∧ Th.cs.length ≤ Th.b.length ∧ Th.bg ≤ Th.b.length := by
                rw [hS7]
                simp only [List.length_append, headT_len]
                omega
              have HF7 : Hid (us.foldl (putU 0) Th = putT S l) := Lib.hid (by rw [HPT.out, HBT.out, hS7, HS1.out])
              clear hS7 HS7 hM0 HL7 HY7 HPT HBT HS1 HT2
              go_wp2
              go_loopw [5, 6, 8, 14] (fun s5 s6 s8 s14 wq => ∃ (k : Nat) (T : LS), k ≤ us.length ∧ s14 = .int .i64 k ∧ s8 = .int .i64 T.bg ∧ T.b.length ≤ M0 + 3 * k ∧ T.cs.length ≤ T.b.length ∧ T.bg ≤ T.b.length ∧ Hid ((us.drop k).foldl (putU 0) T = putT S l) ∧ L4 wq w.heap.size T (ps ++ [S.b.length]) us s5 s6 (.slice App (ps ++ [S.b.length]).length cpp) (.slice A2 us.length c2) ∧ YS w w.heap.size #[.slice (some ra) n c, .int .i64 (U : Int)] wq) (fun _ _ _ s14 _ => us.length - (Go.RowKit.intOf s14).toNat)
              case atStart => exact ⟨0, Th, Nat.zero_le _, rfl, by rw [HG7.out], by omega, by omega, by omega, Lib.hid HF7.out, hL7, hY7⟩
              case round =>
                clear hL7 hY7 HF7 e7
                obtain ⟨k, T, hk, rfl, rfl, ht1, ht2, ht3, HT, hL, hY⟩ := hrel
                by_cases hkn : k < us.length
                · have hkn' : (k : Int) < (us.length : Int) := by omega
                  obtain ⟨x, hx⟩ : ∃ x, us[k]? = some x := ⟨us[k]'(by omega), List.getElem?_eq_getElem _⟩
                  have hxb := HUB.out x (List.mem_of_getElem? hx)
                  have HX := Lib.hid hx
                  have HT3 : Hid ((us.drop (k + 1)).foldl (putU 0) (putU 0 T x) = putT S l) := Lib.hid (by
                    have hi := List.getElem?_eq_some_iff.1 hx
                    have := HT.out
                    rw [List.drop_eq_getElem_cons hi.1, hi.2, List.foldl_cons] at this
                    exact this)
                  obtain ⟨ht4, ht5⟩ := putU_bd (w := 0) (by omega) x ht2
                  obtain ⟨Ad, cd, hdv, -, -, -⟩ := own_form hL.od
                  obtain ⟨Ac, cc, hcv, -, -, -⟩ := own_form hL.oc
                  subst hdv hcv
                  have HY0 := Lib.hid hY
                  have HL0 := Lib.hid hL
                  clear HT hx hY hL
                  by_cases hcut : 224 < T.b.length - T.bg + 1
                  · have hcut' : (224 : Int) < (T.b.length : Int) - (T.bg : Int) + 1 := by omega
                    have HE2 := Lib.hid (putU_cut (k := 1) (w := 0) rfl x hcut)
                    clear hcut
                    have hown := HL0.out.oc
                    have hos := HY0.out.b.size
                    go_wp2_with (at_builtin; refine wpList_app intsRow rfl (.tmp 92) (.tmp 95) rfl rfl rfl (hown.alloc _) (Rd.fresh _ _ 1 1 _ rfl) ?_ ?_ ?_ ?_ ?_)
                    try any_goals first | rfl | (unfold maxLen; omega) | omega | (intro z hz; simp at hz; rcases hz with rfl <;> rfl) | (simp; omega)
                    intro va wa oa ga ba
                    have hLa := HL0.out.cut (x := (T.b.length : Int)) (q := T.b.length) ga oa
                    have hYa : YS w w.heap.size #[.slice (some ra) n c, .int .i64 (U : Int)] wa := ⟨ga.bk (hown.alloc _) (HY0.out.k.alloc _) (by decide), HY0.out.b.trans (((Below.refl _ _).alloc hos _).trans ba)⟩
                    have HYa := Lib.hid hYa
                    have HLa := Lib.hid hLa
                    obtain ⟨Aca, cca, hcva, -, -, -⟩ := own_form hLa.oc
                    simp only [List.length_append, List.length_singleton] at hcva
                    subst hcva
                    clear oa ga ba hown hos HL0 HY0 hLa hYa
                    have hown : wa.ownsRow w.heap.size 5 1 (.slice Ad T.b.length cd) T.b.length (T.b.map bv) := HLa.out.od
                    have hos := HYa.out.b.size
                    go_wp2_with (at_builtin; refine wpList_app bytesRow rfl (.tmp 99) (.tmp 103) rfl rfl rfl (hown.alloc _) (Rd.fresh _ _ 1 1 _ rfl) ?_ ?_ ?_ ?_ ?_)
                    try any_goals first | rfl | (unfold maxLen; omega) | omega | (intro z hz; simp at hz; rcases hz with rfl <;> rfl) | (simp; omega)
                    intro vb wb ob gb bb
                    have ob' : wb.ownsRow w.heap.size 5 1 vb (T.b.length + [UInt8.ofNat 0].length) (T.b.map bv ++ ([UInt8.ofNat 0] : List UInt8).map bv) := by
                      skip
                      exact ob
                    have hLxb := HLa.out.data (t := [UInt8.ofNat 0]) gb ob'
                    obtain ⟨Tb, HTb⟩ : ∃ Tb : LS, Hid (Tb = ⟨T.b ++ [UInt8.ofNat 0], T.cs ++ [(T.b.length : Int)], T.b.length⟩) := ⟨_, Lib.hid rfl⟩
                    have hqb : Tb.b.length ≤ M0 + 3 * k + 1 := by rw [HTb.out]; simp <;> omega
                    have hLb := hLxb
                    have hLbe : (⟨T.b ++ [UInt8.ofNat 0], T.cs ++ [(T.b.length : Int)], T.b.length⟩ : LS) = Tb := HTb.out.symm
                    simp only [hLbe] at hLb
                    have hYb : YS w w.heap.size #[.slice (some ra) n c, .int .i64 (U : Int)] wb := ⟨gb.bk (hown.alloc _) (HYa.out.k.alloc _) (by decide), HYa.out.b.trans (((Below.refl _ _).alloc hos _).trans bb)⟩
                    have HYb := Lib.hid hYb
                    have HLb := Lib.hid hLb
                    obtain ⟨Adb, cdb, hdvb, -, -, -⟩ := own_form hLb.od
                    subst hdvb
                    clear ob ob' gb bb hown hos HLa HYa hLb hLxb hLbe hYb
                    have rU := own_form_rd HLb.out.ou
                    obtain ⟨aU, x', rfl, hx', hcx⟩ := icell rU hkn
                    obtain rfl : x = x' := Option.some.inj (HX.out.symm.trans hx')
                    clear rU hx'
                    have hown : wb.ownsRow w.heap.size 5 1 (.slice Adb Tb.b.length cdb) Tb.b.length (Tb.b.map bv) := HLb.out.od
                    have hos := HYb.out.b.size
                    go_wp2_with (at_builtin; refine wpList_app bytesRow rfl (.tmp 105) (.tmp 111) rfl rfl rfl (hown.alloc _) (Rd.fresh _ _ 1 1 _ rfl) ?_ ?_ ?_ ?_ ?_)
                    try any_goals first | rfl | (unfold maxLen; omega) | omega | (intro z hz; simp at hz; rcases hz with rfl <;> rfl) | (simp; omega)
                    intro vc wc oc gc bc
                    have oc' : wc.ownsRow w.heap.size 5 1 vc (Tb.b.length + [by8 x].length) (Tb.b.map bv ++ ([by8 x] : List UInt8).map bv) := by
                      rw [List.map_cons, List.map_nil, bv_by8]
                      exact oc
                    have hLxc := HLb.out.data (t := [by8 x]) gc oc'
                    obtain ⟨Tc, HTc⟩ : ∃ Tc : LS, Hid (Tc = ⟨Tb.b ++ [by8 x], Tb.cs, Tb.bg⟩) := ⟨_, Lib.hid rfl⟩
                    have hqc : Tc.b.length ≤ M0 + 3 * k + 1 + 1 := by rw [HTc.out]; simp <;> omega
                    have hLc := hLxc
                    have hLce : (⟨Tb.b ++ [by8 x], Tb.cs, Tb.bg⟩ : LS) = Tc := HTc.out.symm
                    simp only [hLce] at hLc
                    have hYc : YS w w.heap.size #[.slice (some ra) n c, .int .i64 (U : Int)] wc := ⟨gc.bk (hown.alloc _) (HYb.out.k.alloc _) (by decide), HYb.out.b.trans (((Below.refl _ _).alloc hos _).trans bc)⟩
                    have HYc := Lib.hid hYc
                    have HLc := Lib.hid hLc
                    obtain ⟨Adc, cdc, hdvc, -, -, -⟩ := own_form hLc.od
                    subst hdvc
                    clear oc oc' gc bc hown hos HLb HYb hLc hLxc hLce hYc hcx
                    have HY9 := HYc
                    have HL9 := HLc
                    have HQ9 : Hid (Tc = putU 0 T x) := Lib.hid (by
                      rw [HE2.out]
                      simp only [HTc.out]; simp only [HTb.out]
                      simp [ub])
                    clear HTb HTc
                    go_wp2
                    go_roundw
                    case rel => exact ⟨k + 1, Tc, by omega, by go_num, by rw [HQ9.out, HE2.out], by rw [HQ9.out]; omega, by rw [HQ9.out]; exact ht5, by rw [HQ9.out, HE2.out]; simp [ub] <;> omega, Lib.hid (by rw [HQ9.out]; exact HT3.out), HL9.out, HY9.out⟩
                    case measure => simp [Go.RowKit.intOf]; omega
                  · have hcut' : ¬ (224 : Int) < (T.b.length : Int) - (T.bg : Int) + 1 := by omega
                    have HE2 := Lib.hid (putU_go (k := 1) (w := 0) rfl x hcut)
                    clear hcut
                    have rU := own_form_rd HL0.out.ou
                    obtain ⟨aU, x', rfl, hx', hcx⟩ := icell rU hkn
                    obtain rfl : x = x' := Option.some.inj (HX.out.symm.trans hx')
                    clear rU hx'
                    have hown := HL0.out.od
                    have hos := HY0.out.b.size
                    go_wp2_with (at_builtin; refine wpList_app bytesRow rfl (.tmp 105) (.tmp 111) rfl rfl rfl (hown.alloc _) (Rd.fresh _ _ 1 1 _ rfl) ?_ ?_ ?_ ?_ ?_)
                    try any_goals first | rfl | (unfold maxLen; omega) | omega | (intro z hz; simp at hz; rcases hz with rfl <;> rfl) | (simp; omega)
                    intro vc wc oc gc bc
                    have oc' : wc.ownsRow w.heap.size 5 1 vc (T.b.length + [by8 x].length) (T.b.map bv ++ ([by8 x] : List UInt8).map bv) := by
                      rw [List.map_cons, List.map_nil, bv_by8]
                      exact oc
                    have hLxc := HL0.out.data (t := [by8 x]) gc oc'
                    obtain ⟨Tc, HTc⟩ : ∃ Tc : LS, Hid (Tc = ⟨T.b ++ [by8 x], T.cs, T.bg⟩) := ⟨_, Lib.hid rfl⟩
                    have hqc : Tc.b.length ≤ M0 + 3 * k + 1 := by rw [HTc.out]; simp <;> omega
                    have hLc := hLxc
                    have hLce : (⟨T.b ++ [by8 x], T.cs, T.bg⟩ : LS) = Tc := HTc.out.symm
                    simp only [hLce] at hLc
                    have hYc : YS w w.heap.size #[.slice (some ra) n c, .int .i64 (U : Int)] wc := ⟨gc.bk (hown.alloc _) (HY0.out.k.alloc _) (by decide), HY0.out.b.trans (((Below.refl _ _).alloc hos _).trans bc)⟩
                    have HYc := Lib.hid hYc
                    have HLc := Lib.hid hLc
                    obtain ⟨Adc, cdc, hdvc, -, -, -⟩ := own_form hLc.od
                    subst hdvc
                    clear oc oc' gc bc hown hos HL0 HY0 hLc hLxc hLce hYc hcx
                    have HY9 := HYc
                    have HL9 := HLc
                    have HQ9 : Hid (Tc = putU 0 T x) := Lib.hid (by
                      rw [HE2.out]
                      simp only [HTc.out]
                      simp [ub])
                    clear HTc
                    go_wp2
                    go_roundw
                    case rel => exact ⟨k + 1, Tc, by omega, by go_num, by rw [HQ9.out, HE2.out], by rw [HQ9.out]; omega, by rw [HQ9.out]; exact ht5, by rw [HQ9.out, HE2.out]; simp [ub] <;> omega, Lib.hid (by rw [HQ9.out]; exact HT3.out), HL9.out, HY9.out⟩
                    case measure => simp [Go.RowKit.intOf]; omega
                · obtain rfl : us.length = k := by omega
                  have hHT := HT.out
                  rw [List.drop_eq_nil_of_le (by omega)] at hHT
                  have hTT : T = putT S l := hHT
                  have HL9 := Lib.hid hL.none
                  have HY9 := Lib.hid hY
                  have HT9 := Lib.hid hTT
                  obtain ⟨Ad, cd, hdv, -, -, -⟩ := own_form hL.od
                  obtain ⟨Ac, cc, hcv, -, -, -⟩ := own_form hL.oc
                  subst hdv hcv
                  clear HT hL hY hkn hHT hTT
                  go_wp2
                  go_roundw
                  case rel => exact ⟨i + 1, T, ps ++ [S.b.length], by omega, by go_num, by first | rfl | trivial, Lib.hid (by rw [HS2.out, HT9.out]), Lib.hid HPS2.out, by have := HL9.out; rwa [show (ps ++ [S.b.length]).length = ps.length + 1 by simp] at this, HY9.out⟩
                  case measure => simp [Go.RowKit.intOf]; omega
        · rw [HV2.out] at hx; cases hx
      · obtain rfl : n = i := by omega
        have hfin : layS L (U : Int) = S ∧ layP L (U : Int) = ps := by
          have e1 := HS.out
          have e2 := HPS.out
          rw [List.take_of_length_le (by omega)] at e1 e2
          exact ⟨e1, e2⟩
        have hb9 := hY.b
        have c10 := hY.k.cell 0
        have HF := Lib.hid hfin
        have HL := Lib.hid hL4
        obtain ⟨Ad, cd, rfl, -, -, -⟩ := own_form hL4.od
        obtain ⟨Ac, cc, rfl, -, -, -⟩ := own_form hL4.oc
        obtain ⟨Ap, cp, rfl, -, -, -⟩ := own_form hL4.op
        clear hfin HS HPS hL4 hY HLA HE HSZ h
        go_wp2
        refine bodyPost_ret (v := .tuple #[.slice Ad S.b.length cd, .slice Ac S.cs.length cc, .slice Ap ps.length cp]) (by simp [results, Tryz.results26, go_sem]) rfl ?_
        refine ⟨_, _, _, rfl, ?_⟩
        rw [HF.out.1, HF.out.2]
        exact ⟨HL.out.od, HL.out.oc, HL.out.op, hb9⟩
end Go.Proofs.YtllcecnkbndokaaGreatDoor
