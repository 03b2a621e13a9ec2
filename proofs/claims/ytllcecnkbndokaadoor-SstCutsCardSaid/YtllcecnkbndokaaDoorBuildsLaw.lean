/- cashbookref7.Build by its contract. Conditions: the texts read as such; neither they are too many nor one too long. -/
/- cashbooklaw7.SstBuilds by its contract: it returns true. Conditions: the texts read as such; utf8.ValidString keeps its contract. -/
import Derived.Test.YtllcecnkbndokaaDoorBUnits
import Derived.Test.YtllcecnkbndokaaDoorParts
import Derived.Test.YtllcecnkbndokaaDoorBuild
import Derived.Test.YtllcecnkbndokaaDoorLaw0
import Derived.Test.YtllcecnkbndokaaDoorTwice0
namespace Go.Proofs.YtllcecnkbndokaaDoor
open Go.RowKit Go.Lib

theorem idx_is {T : List (List UInt8)} {m : Nat} {y : List UInt8} (h : T[m]? = some y) (hn : y ∉ T.take m) : y ∈ T ∧ T.idxOf y = m := by
  have hi := List.getElem?_eq_some_iff.1 h
  refine ⟨List.mem_of_getElem? h, ?_⟩
  have e : T.take m ++ T.drop m = T := List.take_append_drop m T
  have hd : T.drop m = y :: T.drop (m + 1) := by rw [List.drop_eq_getElem_cons hi.1, hi.2]
  rw [← e, List.idxOf_append, if_neg hn, hd, List.idxOf_cons_self, List.length_take]
  have := hi.1
  omega
theorem not_next {T : List (List UInt8)} {m : Nat} {x y : List UInt8} (hn : y ∉ T.take m) (h : T[m]? = some x) (hxy : x ≠ y) : y ∉ T.take (m + 1) := by
  rw [List.take_add_one, h]
  intro hm
  rcases List.mem_append.1 hm with hm | hm
  · exact hn hm
  · have hm' : y = x := by simpa using hm
    exact hxy hm'.symm
/-- A table's box and places, on the way. -/
structure BI (w0 W : World) (g k : Nat) (xv av : Value) (T : List (List UInt8)) (P : List Nat) : Prop where
  b1 : Bk W g 31 #[.slice none 0 0, .int .i64 0]
  b2 : Bk W (g + 1) 31 #[xv, .int .i64 k]
  t : W.ownsRow (g + 2) 9 1 xv T.length (T.map tv)
  a : W.ownsRow (g + 2) 3 1 av k (P.map nv)
  b : Below g w0 W
theorem BI.drewN {w0 W : World} {g k : Nat} {xv av : Value} {T : List (List UInt8)} {P : List Nat} (h : BI w0 W g k xv av T P) (d : Nat) : BI w0 (W.drewN d) g k xv av T P :=
  ⟨h.b1.below (below_refl_drewN W d) h.b1.lt, h.b2.below (below_refl_drewN W d) h.b2.lt, own_below h.t (below_refl_drewN W d), own_below h.a (below_refl_drewN W d), below_drewN h.b d⟩
theorem BI.next {w0 W w4 : World} {g i p : Nat} {xv av v4 : Value} {T : List (List UInt8)} {P : List Nat} {o : Obj} (h : BI w0 W g i xv av T P) (hgs : g ≤ W.heap.size) (hg : Grew (W.alloc o) w4 av v4)
    (ho : w4.ownsRow (g + 2) 3 1 v4 (i + 1) (P.map nv ++ [nv p])) (hb : Below (g + 2) (W.alloc o) w4) : Bk w4 (g + 1) 31 #[xv, .int .i64 i] ∧ BI w0 (w4.setCell ⟨g + 1, 1, none⟩ (.int .i64 ((i : Int) + 1))) g (i + 1) xv v4 T (P ++ [p]) := by
  have k1 := hg.bk (h.a.alloc o) (h.b1.alloc o) (by decide)
  have k2 := hg.bk (h.a.alloc o) (h.b2.alloc o) (by decide)
  have kt := grew_own hg h.a h.t (by decide)
  have hbel : Below g w0 w4 := h.b.trans (((Below.refl _ W).alloc hgs _).trans (hb.mono (by omega)))
  have hK : Keep (fun i => i = g + 1) w4 (w4.setCell ⟨g + 1, 1, none⟩ (.int .i64 ((i : Int) + 1))) := (Keep.refl (fun i => i = g + 1) w4).setCell (p := ⟨g + 1, 1, none⟩) (fun _ => rfl) _
  refine ⟨k2, hK.bk k1 (by omega), by have := k2.set_ 1 (.int .i64 ((i : Int) + 1)); simpa using this, hK.own kt fun j hj he => ?_, ?_, hbel.setCell (by show g ≤ g + 1; omega) _⟩
  · subst he
    exact own_ne kt k2 (by decide) hj
  · rw [List.map_append]
    exact hK.own ho fun j hj he => by subst he; exact own_ne ho k2 (by decide) hj
theorem BI.more {w0 W W' : World} {g i : Nat} {xv av x1 : Value} {T : List (List UInt8)} {P : List Nat} {y : List UInt8} (h : BI w0 W g i xv av T P) (hgs : g ≤ W.heap.size) (hK : Keep (ApT (g + 1) xv) W W')
    (hb : Bk W' (g + 1) 31 #[x1, .int .i64 i]) (ho : W'.ownsRow (g + 2) 9 1 x1 (T.length + 1) (T.map tv ++ [.string (strOf y)])) : BI w0 W' g i x1 av (T ++ [y]) P := by
  refine ⟨hK.bk h.b1 ?_, hb, ?_, hK.own h.a fun j hj he => ?_, h.b.trans (hK.below hgs fun j hj he => ?_)⟩
  · rintro (hg | hg)
    · omega
    · have := (h.t.lt _ hg).1
      omega
  · rw [List.map_append, List.length_append, List.length_singleton]
    exact ho
  · rcases he with rfl | he
    · exact own_ne h.a h.b2 (by decide) hj
    · exact own_own_ne h.a h.t (by decide) j hj he
  · rcases he with rfl | he
    · omega
    · have := (h.t.lt _ he).1
      omega

set_option maxHeartbeats 16000000 in
set_option maxRecDepth 100000 in
theorem bBuild_any {w : World} {B n c : Nat} {A : Option Addr} {L : List (List UInt8)} (h : Rd w B 1 A n (L.map tv)) (hB : B ≤ w.heap.size) (hn : n ≤ 1000) (hs : ∀ l ∈ L, l.length ≤ 100000) :
    Calls Tryd.prog 9 #[.slice A n c] w fun e w' => ∃ xv av, e = .returned (.tuple #[.agg #[xv, .int .i64 (bU L)], av, .int .i64 (ckT L)]) ∧ w'.ownsRow w.heap.size 9 1 xv (bT L).length ((bT L).map tv) ∧ w'.ownsRow w.heap.size 3 1 av (bA L).length ((bA L).map nv) ∧ Below w.heap.size w w' := by
  have hl := h.tlen
  obtain ⟨E, hE⟩ : ∃ E, ckT L = E := ⟨_, rfl⟩
  have H0 := Lib.hid hE
  have HSZ := Lib.hid hs
  rw [hE]
  clear hE hs
  have s1 : Bk ((w.alloc (.cells #[.slice none 0 0, .int .i64 0] 31)).alloc (.cells #[.slice none 0 0, .int .i64 0] 31)) w.heap.size 31 #[.slice none 0 0, .int .i64 0] := (Bk.new w _ _).alloc _
  have s2 : Bk ((w.alloc (.cells #[.slice none 0 0, .int .i64 0] 31)).alloc (.cells #[.slice none 0 0, .int .i64 0] 31)) (w.heap.size + 1) 31 #[.slice none 0 0, .int .i64 0] := by
    have := Bk.new (w.alloc (.cells #[.slice none 0 0, .int .i64 0] 31)) 31 #[.slice none 0 0, .int .i64 0]
    rwa [show (w.alloc (.cells #[.slice none 0 0, .int .i64 0] 31)).heap.size = w.heap.size + 1 by simp] at this
  have hb0 := two_below w (.cells #[.slice none 0 0, .int .i64 0] 31) (.cells #[.slice none 0 0, .int .i64 0] 31)
  go_enter Tryd.func9, Tryd.ntmps9
  go_wp2_with fail
  generalize hWW : (w.alloc (.cells #[.slice none 0 0, .int .i64 0] 31)).alloc (.cells #[.slice none 0 0, .int .i64 0] 31) = W0 at *
  clear hWW
  go_loopw [7, 8, 9] (fun i _ _ wr => ∃ k : Nat, k ≤ n ∧ i = .int .i64 k ∧ Bk wr w.heap.size 31 #[.slice none 0 0, .int .i64 0] ∧ Bk wr (w.heap.size + 1) 31 #[.slice none 0 0, .int .i64 0] ∧ Below w.heap.size w wr ∧ Hid (ckT (L.drop k) = E)) (fun i _ _ _ => n - (Go.RowKit.intOf i).toNat)
  case atStart => exact ⟨0, Nat.zero_le _, rfl, s1, s2, hb0, Lib.hid (by rw [List.drop_zero, H0.out])⟩
  case round =>
    obtain ⟨k, hk, rfl, k1, k2, hbel, HE⟩ := hrel
    have hsz := hbel.size
    by_cases hkn : k < n
    · have hkn' : (k : Int) < (n : Int) := by omega
      obtain ⟨a, s, rfl, hab, hsi, hcell⟩ := (h.belowMono hbel hB).strAt hkn
      have hst := ckT_drop hsi
      have hss : s.size ≤ 100000 := by have := HSZ.out _ (List.mem_of_getElem? hsi); simpa using this
      have hU := bUnits_any (w := wr) s (by omega)
      clear hsi h HSZ s1 s2 hb0
      by_cases h0 : uE s.data.toList = 0
      · rw [h0] at hU
        have HU := Lib.hid hU
        have HE2 : Hid (ckT (L.drop (k + 1)) = E) := Lib.hid (by rw [← HE.out, hst, if_pos h0])
        clear hU hst h0 HE
        generalize uV s.data.toList = V at *
        go_wp2_with fail
        refine HU.out.mono ?_
        rintro e w2 ⟨rfl, hb2⟩
        have hbel2 := hbel.trans (hb2.mono hbel.size)
        have j1 := k1.below hb2 k1.lt
        have j2 := k2.below hb2 k2.lt
        clear HU hcell hb2 k1 k2
        go_wp2
        go_roundw
        case rel => exact ⟨k + 1, by omega, by go_num, j1, j2, hbel2, HE2⟩
        case measure => simp [Go.RowKit.intOf]; omega
      · have he : uE s.data.toList = E := by rw [← HE.out, hst, if_neg h0]
        rw [he] at hU h0
        have HU := Lib.hid hU
        have hb : (E != 0) = true := by simpa using h0
        have HF := Lib.hid (show bT L = [] ∧ bU L = 0 ∧ bA L = [] by
          have hx : ¬ ckT L = 0 := by rw [H0.out]; exact h0
          unfold bT bU bA; rw [if_neg hx, if_neg hx, if_neg hx]; exact ⟨rfl, rfl, rfl⟩)
        clear hU hst h0 HE he
        generalize uV s.data.toList = V at *
        go_wp2_with fail
        refine HU.out.mono ?_
        rintro e w2 ⟨rfl, hb2⟩
        have hbel2 := hbel.trans (hb2.mono hbel.size)
        have j1 := k1.below hb2 k1.lt
        clear HU hcell hb2 k1 k2
        have d0 := j1.cell 0
        have d1 := j1.cell 1
        have y0 := j1.frozen 0
        have y1 := j1.frozen 1
        clear H0
        go_wp2
        refine bodyPost_ret (v := .tuple #[.agg #[.slice none 0 0, .int .i64 0], .slice none 0 0, .int .i64 E]) (by simp [results, Tryd.results9, go_sem, d0, d1]) rfl ?_
        rw [HF.out.1, HF.out.2.1, HF.out.2.2]
        exact ⟨_, _, rfl, World.ownsRow_nil _ _ _ _, World.ownsRow_nil _ _ _ _, (hbel2.setCell (by show w.heap.size ≤ w.heap.size; omega) _).setCell (by show w.heap.size ≤ w.heap.size; omega) _⟩
    · obtain rfl : k = n := by omega
      have he : E = 0 := by
        rw [← HE.out, List.drop_eq_nil_of_le (by omega)]
        rfl
      subst he
      have HF := Lib.hid (show bT L = ddT L ∧ bU L = (k : Int) ∧ bA L = atT L by unfold bT bU bA; rw [if_pos H0.out, if_pos H0.out, if_pos H0.out, hl]; exact ⟨rfl, rfl, rfl⟩)
      clear HE H0 HSZ s1 s2 hb0 hkn
      go_wp2
      go_loopw [6, 10] (fun av i wr' => ∃ (j : Nat) (xv : Value) (l : List (List UInt8)), j ≤ k ∧ i = .int .i64 j ∧ Hid (l = L.take j) ∧ BI w wr' w.heap.size j xv av (ddT l) (atT l)) (fun _ i _ => k - (Go.RowKit.intOf i).toNat)
      case atStart => exact ⟨0, _, [], Nat.zero_le _, rfl, Lib.hid (by simp), ⟨k1, k2, World.ownsRow_nil _ _ _ _, World.ownsRow_nil _ _ _ _, hbel⟩⟩
      case round =>
        clear k1 k2 hbel hsz
        generalize wr = W2 at *
        obtain ⟨i, xv, l, hi, rfl, HL, hI⟩ := hrel
        by_cases hin : i < k
        · have hin' : (i : Int) < (k : Int) := by omega
          obtain ⟨ra, y, rfl, hab, hyi, hcell⟩ := (h.belowMono hI.b hB).tvAt hin
          have HL2 : Hid (l ++ [y] = L.take (i + 1)) := Lib.hid (by
            have hz := (List.getElem?_eq_some_iff.1 hyi)
            rw [HL.out, ← List.take_append_getElem hz.1, hz.2])
          have hql : (ddT l).length ≤ i := by have := dd_len l; rw [HL.out, List.length_take] at this; rw [HL.out]; omega
          obtain ⟨AT, cT, rfl, hcT, -, rT⟩ := own_form hI.t
          obtain ⟨Aa, ca, rfl, -, -, -⟩ := own_form hI.a
          have HI := Lib.hid hI
          have c50 := hI.b2.cell 0
          generalize hq : (ddT l).length = q at *
          have HQ := Lib.hid hq
          clear hI hq hyi
          go_wp2
          go_loopw [11] (fun j w' => ∃ m d : Nat, m ≤ q ∧ j = .int .i64 m ∧ w' = W2.drewN d ∧ Hid (y ∉ (ddT l).take m)) (fun j _ => q - (Go.RowKit.intOf j).toNat)
          case atStart => exact ⟨0, 0, Nat.zero_le _, rfl, rfl, Lib.hid (by simp)⟩
          case round =>
            obtain ⟨m, d, hm, rfl, rfl, HN⟩ := hrel
            by_cases hmq : m < q
            · have hmq' : (m : Int) < (q : Int) := by omega
              obtain ⟨b, x, rfl, _, hx, hc⟩ := rT.tvAt hmq
              have e3 := strOf_eq x y
              by_cases hxy : x = y
              · subst hxy
                rw [decide_eq_true rfl] at e3
                have hne : ((m : Int) == (q : Int)) = false := by simp; omega
                have HX := Lib.hid (idx_is hx HN.out)
                clear hx HN rT
                go_wp2
                go_quiet (fail)
                have hI3 := (HI.out.drewN d).drewN nq
                have EE := Lib.hid (dd_in HX.out.1)
                rw [HX.out.2] at EE
                generalize (W2.drewN d).drewN nq = W3 at *
                have hsz3 := hI3.b2.lt
                clear HI hcell c50 hc HX
                have c50 := hI3.b2.cell 0
                go_wp2_with (at_builtin; refine wpList_app intsRow rfl (.tmp 72) (.tmp 74) rfl rfl rfl (hI3.a.alloc _) (Rd.fresh _ _ 1 1 _ rfl) ?_ ?_ ?_ ?_ ?_)
                · intro u hu; simp at hu; subst hu; rfl
                · unfold maxLen; omega
                · omega
                · simp; omega
                intro v4 w4 o4 g4 b4
                obtain ⟨j2, hI5⟩ := hI3.next (p := m) (by omega) g4 o4 b4
                have q1 := j2.cell 1
                have z1 := j2.frozen 1
                clear o4 g4 b4 hI3 j2
                go_wp2
                go_roundw
                case rel => exact ⟨i + 1, _, _, by omega, by go_num, HL2, by rw [EE.out.1, EE.out.2]; exact hI5⟩
                case measure => simp [Go.RowKit.intOf]; omega
              · rw [decide_eq_false hxy] at e3
                have HN2 := Lib.hid (not_next HN.out hx hxy)
                clear hx hxy HN rT
                go_wp2
                go_quiet (fail)
                go_wp2
                go_roundw
                case rel => exact ⟨m + 1, _, by omega, by go_num, rfl, HN2⟩
                case measure => simp [Go.RowKit.intOf]; omega
            · obtain rfl : m = q := by omega
              have hNI : y ∉ ddT l := by have := HN.out; rwa [List.take_of_length_le (by rw [HQ.out]; exact Nat.le_refl _)] at this
              have EE := Lib.hid (dd_out hNI)
              rw [HQ.out] at EE
              have hmm : ((m : Int) == (m : Int)) = true := by simp
              have hm4 : ¬ (1024 : Int) ≤ (m : Int) := by omega
              clear hmq hNI
              go_wp2
              go_quiet (fail)
              have hI2 := (HI.out.drewN d).drewN nq
              have hc3 : ((W2.drewN d).drewN nq).cell? (ra.add i) = some (.string (strOf y)) := hcell
              generalize (W2.drewN d).drewN nq = W3 at *
              have hbox0 := hI2.b2
              have hrow0 := hI2.t
              rw [HQ.out] at hrow0
              have hgl := hbox0.lt
              have hvl := own_blk hrow0
              have hB1 : w.heap.size + 2 ≤ W3.heap.size := hgl
              have HFC := Lib.hid (fun (W : World) (hK : Keep (ApT (w.heap.size + 1) (.slice AT m cT)) W3 W) => show W.cell? (ra.add i) = some (.string (strOf y)) from by
                rw [(Keep.below (B := w.heap.size) hK (by omega) (fun j hj he => by
                  rcases he with he | he
                  · omega
                  · have := (hrow0.lt _ he).1; omega)).cell (by rw [show (ra.add i).block = ra.block by unfold Addr.add; split <;> rfl]; omega)]
                exact hc3)
              have HI2 := Lib.hid hI2
              clear HI hcell c50 rT HN hI2 hc3
              have c50 := hbox0.cell 0
              go_wp2
              clear c50
              refine wp_region_phases (S := (ApS W3 (w.heap.size + 2) (w.heap.size + 1) 31 9 (fun ur => #[ur, .int .i64 (i : Nat)]) m 1 ((ddT l).map tv) (((ddT l).map tv) ++ [.string (strOf y)]) (.slice AT m cT))) (E := (fun W W' => Keep (ApT (w.heap.size + 1) (.slice AT m cT)) W W')) [1, 7, 9] [(0, Is (.slice (some ra) k c)), (1, Is (undef)), (2, Is (.pointer (some ⟨w.heap.size, 0, none⟩))), (3, Is (u3)), (4, Is (u4)), (5, Is (.pointer (some ⟨w.heap.size + 1, 0, none⟩))), (6, Is (.slice Aa i ca)), (7, Is (.int .i64 k)), (8, Is (u8)), (9, Is (u9)), (10, Is (.int .i64 i)), (11, Is (.int .i64 m)), (12, Is (.int .i64 k)), (13, Is (.slice (some ra) k c)), (14, Is (.int .i64 k)), (15, Is (.bool false)), (16, Is (u16)), (17, Is (u17)), (18, Is (u18)), (19, Is (u19)), (20, Is (u20)), (21, Is (u21)), (22, Is (u22)), (23, Is (u23)), (24, Is (u24)), (25, Is (u25)), (26, Is (u26)), (27, Is (u27)), (28, Is (u28)), (29, Is (u29)), (80, Is (undef)), (81, Is (undef))] [(63, Is (.pointer (some ⟨(w.heap.size + 1), 0, none⟩))), (65, Is (.slice (some ra) k c)), (66, Is (.int .i64 i)), (67, Is (.pointer (some (ra.add i)))), (68, Is (.string (strOf y))), (69, ApX W3.heap.size 9 (.string (strOf y))), (71, Is (.pointer (some ⟨(w.heap.size + 1), 0, none⟩)))]
                [.op [5] none, .phase 0 [63] [], .op [0] none, .op [10] none, .op [65, 66] none, .op [67] none, .op [68] none, .phase 1 [69] [(0, 64)], .op [5] none, .phase 2 [71] [(1, 70)]] (by as_aux_lemma => kernel_rfl) ?_ ?_ ?_ ?_ ?_ ⟨stable_is _ _, stable_is _ _, stable_is _ _, stable_is _ _, stable_is _ _, stable_is _ _, stable_is _ _, stable_is _ _, stable_is _ _, stable_is _ _, stable_is _ _, stable_is _ _, stable_is _ _, stable_is _ _, stable_is _ _, stable_is _ _, stable_is _ _, stable_is _ _, stable_is _ _, stable_is _ _, stable_is _ _, stable_is _ _, stable_is _ _, stable_is _ _, stable_is _ _, stable_is _ _, stable_is _ _, stable_is _ _, stable_is _ _, stable_is _ _, stable_is _ _, stable_is _ _, stable_is _ _, stable_is _ _, stable_is _ _, stable_is _ _, stable_is _ _, apx_stable hgl hvl, stable_is _ _, trivial⟩ ?_ (ApS.start hbox0 hrow0) ?_ ?_
              · as_aux_lemma => kernel_rfl
              · as_aux_lemma => kernel_rfl
              · as_aux_lemma => kernel_rfl
              · as_aux_lemma => kernel_rfl
              · as_aux_lemma => kernel_rfl
              · exact ⟨rfl, rfl, rfl, rfl, rfl, rfl, rfl, rfl, rfl, rfl, rfl, rfl, rfl, rfl, rfl, rfl, rfl, rfl, rfl, rfl, rfl, rfl, rfl, rfl, rfl, rfl, rfl, rfl, rfl, rfl, rfl, rfl, trivial⟩
              · refine ⟨?_, ?_, ?_, ?_, ?_, ?_, ?_, ?_, ?_, ?_, trivial⟩
                · as_aux_lemma =>
                    intro vals a W hS hL
                    have e5 : a.tmps.getD 5 undef = .pointer (some ⟨w.heap.size + 1, 0, none⟩) := hL.1
                    clear hL
                    go_simp
                    exact ⟨⟨fun d hd => by injection hd with hd; subst hd; rfl, fun h => by cases h⟩, hS, Keep.refl _ _⟩
                · as_aux_lemma =>
                    intro a W vals hv hS hL hp
                    have e63 : a.tmps.getD 63 undef = .pointer (some ⟨(w.heap.size + 1), 0, none⟩) := hL.1
                    clear hL
                    match vals, hv, hS with
                    | [], _, hS =>
                      have fb : W.cell? ⟨(w.heap.size + 1), 0, none⟩ = some (.slice AT m cT) := hS.2.1.cell 0
                      go_simp
                      exact ⟨⟨rfl, hS⟩, trivial, Keep.refl _ _⟩
                · as_aux_lemma =>
                    intro vals a W hS hL
                    have e0 : a.tmps.getD 0 undef = .slice (some ra) k c := hL.1
                    clear hL
                    go_simp
                    exact ⟨⟨fun d hd => by injection hd with hd; subst hd; rfl, fun h => by cases h⟩, hS, Keep.refl _ _⟩
                · as_aux_lemma =>
                    intro vals a W hS hL
                    have e10 : a.tmps.getD 10 undef = .int .i64 i := hL.1
                    clear hL
                    go_simp
                    exact ⟨⟨fun d hd => by injection hd with hd; subst hd; rfl, fun h => by cases h⟩, hS, Keep.refl _ _⟩
                · as_aux_lemma =>
                    intro vals a W hS hL
                    have e65 : a.tmps.getD 65 undef = .slice (some ra) k c := hL.1
                    have e66 : a.tmps.getD 66 undef = .int .i64 i := hL.2.1
                    clear hL
                    go_simp
                    exact ⟨⟨fun d hd => by injection hd with hd; subst hd; rfl, fun h => by cases h⟩, hS, Keep.refl _ _⟩
                · as_aux_lemma =>
                    intro vals a W hS hL
                    have e67 : a.tmps.getD 67 undef = .pointer (some (ra.add i)) := hL.1
                    clear hL
                    have fc := HFC.out W (ApS.keep hS)
                    go_simp
                    exact ⟨⟨fun d hd => by injection hd with hd; subst hd; rfl, fun h => by cases h⟩, hS, Keep.refl _ _⟩
                · as_aux_lemma =>
                    intro vals a W hS hL
                    have e68 : a.tmps.getD 68 undef = .string (strOf y) := hL.1
                    clear hL
                    have hsz := (ApS.keep hS).size
                    rw [Array.getD_eq_getD_getElem?] at e68
                    go_simp
                    exact ⟨⟨fun d hd => by injection hd with hd; subst hd; exact ⟨_, rfl, hsz, Bk.new _ _ _⟩, fun h => by cases h⟩, ApS.alloc hS _, Keep.alloc (Keep.refl _ _) _⟩
                · as_aux_lemma =>
                    intro a W vals hv hS hL hp
                    have e69 := hL.1
                    clear hL
                    obtain ⟨gx, e69, hgx, hkx⟩ := e69
                    match vals, hv, hS, hp with
                    | [u], _, hS, hp =>
                      obtain ⟨rfl, hK, hbx, hrow⟩ := hS
                      have e64 := (Option.some.inj (hp.1 (by simp))).symm
                      have hsz := hK.size
                      refine lands_app strsRow (.tmp 64) (.tmp 69) rfl e64 e69 hrow (bk_rd (k := 1) (n := 1) hkx rfl) (by intro u hu; simp at hu; subst hu; rfl) (by unfold maxLen; omega) (by omega) (Nat.le_trans hB1 hsz) fun v2_ w2_ o2_ g2_ => ?_
                      have hA := ApS.appended (W0 := W3) (g := (w.heap.size + 1)) (T := 31) (C := (fun ur => #[ur, .int .i64 (i : Nat)])) (xs := ((ddT l).map tv)) ⟨rfl, hK, hbx, hrow⟩ g2_ o2_ (by decide)
                      exact ⟨hA.1, trivial, hA.2⟩
                · as_aux_lemma =>
                    intro vals a W hS hL
                    have e5 : a.tmps.getD 5 undef = .pointer (some ⟨w.heap.size + 1, 0, none⟩) := hL.1
                    clear hL
                    go_simp
                    exact ⟨⟨fun d hd => by injection hd with hd; subst hd; rfl, fun h => by cases h⟩, hS, Keep.refl _ _⟩
                · as_aux_lemma =>
                    intro a W vals hv hS hL hp
                    have e71 : a.tmps.getD 71 undef = .pointer (some ⟨(w.heap.size + 1), 0, none⟩) := hL.1
                    clear hL
                    match vals, hv, hS, hp with
                    | [u, v1], _, hS, hp =>
                      have e70 := (Option.some.inj (hp.1 (by simp))).symm
                      obtain ⟨A2, c2, e2, _⟩ := own_form hS.2.2.1
                      subst e2
                      have kz := hS.2.1
                      have fb : W.cell? ⟨(w.heap.size + 1), 0, none⟩ = some (.slice AT m cT) := kz.cell 0
                      have zb := kz.frozen 0
                      have hF := ApS.stored (x := undef) (k := 0) hS rfl (by decide)
                      rw [Array.getD_eq_getD_getElem?] at e70
                      clear hS kz
                      go_simp
                      exact ⟨hF.1, trivial, hF.2⟩
              · intro a W' vals hd hsz hT hF hv hP hS
                obtain ⟨x0, x1, x2, rfl⟩ : ∃ x0 x1 x2, vals = [x0, x1, x2] := by
                  match vals, hv with
                  | [x, y, z], _ => exact ⟨x, y, z, rfl⟩
                obtain ⟨hK, hbF, hoF, hlF⟩ := ApS.done hS
                have e0 : a.tmps.getD 0 undef = .slice (some ra) k c := hT 0 (by simp)
                have e1 : a.tmps.getD 1 undef = undef := hT 1 (by simp)
                have e2 : a.tmps.getD 2 undef = .pointer (some ⟨w.heap.size, 0, none⟩) := hT 2 (by simp)
                have e3 : a.tmps.getD 3 undef = u3 := hT 3 (by simp)
                have e4 : a.tmps.getD 4 undef = u4 := hT 4 (by simp)
                have e5 : a.tmps.getD 5 undef = .pointer (some ⟨w.heap.size + 1, 0, none⟩) := hT 5 (by simp)
                have e6 : a.tmps.getD 6 undef = .slice Aa i ca := hT 6 (by simp)
                have e7 : a.tmps.getD 7 undef = .int .i64 k := hT 7 (by simp)
                have e8 : a.tmps.getD 8 undef = u8 := hT 8 (by simp)
                have e9 : a.tmps.getD 9 undef = u9 := hT 9 (by simp)
                have e10 : a.tmps.getD 10 undef = .int .i64 i := hT 10 (by simp)
                have e11 : a.tmps.getD 11 undef = .int .i64 m := hT 11 (by simp)
                have e12 : a.tmps.getD 12 undef = .int .i64 k := hT 12 (by simp)
                have e13 : a.tmps.getD 13 undef = .slice (some ra) k c := hT 13 (by simp)
                have e14 : a.tmps.getD 14 undef = .int .i64 k := hT 14 (by simp)
                have e15 : a.tmps.getD 15 undef = .bool false := hT 15 (by simp)
                have e16 : a.tmps.getD 16 undef = u16 := hT 16 (by simp)
                have e17 : a.tmps.getD 17 undef = u17 := hT 17 (by simp)
                have e18 : a.tmps.getD 18 undef = u18 := hT 18 (by simp)
                have e19 : a.tmps.getD 19 undef = u19 := hT 19 (by simp)
                have e20 : a.tmps.getD 20 undef = u20 := hT 20 (by simp)
                have e21 : a.tmps.getD 21 undef = u21 := hT 21 (by simp)
                have e22 : a.tmps.getD 22 undef = u22 := hT 22 (by simp)
                have e23 : a.tmps.getD 23 undef = u23 := hT 23 (by simp)
                have e24 : a.tmps.getD 24 undef = u24 := hT 24 (by simp)
                have e25 : a.tmps.getD 25 undef = u25 := hT 25 (by simp)
                have e26 : a.tmps.getD 26 undef = u26 := hT 26 (by simp)
                have e27 : a.tmps.getD 27 undef = u27 := hT 27 (by simp)
                have e28 : a.tmps.getD 28 undef = u28 := hT 28 (by simp)
                have e29 : a.tmps.getD 29 undef = u29 := hT 29 (by simp)
                have e80 : a.tmps.getD 80 undef = undef := hT 80 (by simp)
                have e81 : a.tmps.getD 81 undef = undef := hT 81 (by simp)
                clear hT hF hP hS
                rw [act_lit 82 a hd hsz]
                simp only [List.range, List.range.loop, List.map, e0, e1, e2, e3, e4, e5, e6, e7, e8, e9, e10, e11, e12, e13, e14, e15, e16, e17, e18, e19, e20, e21, e22, e23, e24, e25, e26, e27, e28, e29, e80, e81]
                clear e0 e1 e2 e3 e4 e5 e6 e7 e8 e9 e10 e11 e12 e13 e14 e15 e16 e17 e18 e19 e20 e21 e22 e23 e24 e25 e26 e27 e28 e29 e80 e81 hsz hd hbox0 hrow0
                generalize a.tmps.getD 30 undef = y30
                generalize a.tmps.getD 31 undef = y31
                generalize a.tmps.getD 32 undef = y32
                generalize a.tmps.getD 33 undef = y33
                generalize a.tmps.getD 34 undef = y34
                generalize a.tmps.getD 35 undef = y35
                generalize a.tmps.getD 36 undef = y36
                generalize a.tmps.getD 37 undef = y37
                generalize a.tmps.getD 38 undef = y38
                generalize a.tmps.getD 39 undef = y39
                generalize a.tmps.getD 40 undef = y40
                generalize a.tmps.getD 41 undef = y41
                generalize a.tmps.getD 42 undef = y42
                generalize a.tmps.getD 43 undef = y43
                generalize a.tmps.getD 44 undef = y44
                generalize a.tmps.getD 45 undef = y45
                generalize a.tmps.getD 46 undef = y46
                generalize a.tmps.getD 47 undef = y47
                generalize a.tmps.getD 48 undef = y48
                generalize a.tmps.getD 49 undef = y49
                generalize a.tmps.getD 50 undef = y50
                generalize a.tmps.getD 51 undef = y51
                generalize a.tmps.getD 52 undef = y52
                generalize a.tmps.getD 53 undef = y53
                generalize a.tmps.getD 54 undef = y54
                generalize a.tmps.getD 55 undef = y55
                generalize a.tmps.getD 56 undef = y56
                generalize a.tmps.getD 57 undef = y57
                generalize a.tmps.getD 58 undef = y58
                generalize a.tmps.getD 59 undef = y59
                generalize a.tmps.getD 60 undef = y60
                generalize a.tmps.getD 61 undef = y61
                generalize a.tmps.getD 62 undef = y62
                generalize a.tmps.getD 63 undef = y63
                generalize a.tmps.getD 64 undef = y64
                generalize a.tmps.getD 65 undef = y65
                generalize a.tmps.getD 66 undef = y66
                generalize a.tmps.getD 67 undef = y67
                generalize a.tmps.getD 68 undef = y68
                generalize a.tmps.getD 69 undef = y69
                generalize a.tmps.getD 70 undef = y70
                generalize a.tmps.getD 71 undef = y71
                generalize a.tmps.getD 72 undef = y72
                generalize a.tmps.getD 73 undef = y73
                generalize a.tmps.getD 74 undef = y74
                generalize a.tmps.getD 75 undef = y75
                generalize a.tmps.getD 76 undef = y76
                generalize a.tmps.getD 77 undef = y77
                generalize a.tmps.getD 78 undef = y78
                generalize a.tmps.getD 79 undef = y79
                have hI3 := HI2.out.more (x1 := x1) (y := y) (by omega) hK hbF (by rw [HQ.out]; exact hoF)
                have hsz3 := hI3.b2.lt
                obtain ⟨AT2, cT2, rfl, -, -, -⟩ := own_form hoF
                clear hK hbF hoF hlF HI2
                go_wp2_with (at_builtin; refine wpList_app intsRow rfl (.tmp 72) (.tmp 74) rfl rfl rfl (hI3.a.alloc _) (Rd.fresh _ _ 1 1 _ rfl) ?_ ?_ ?_ ?_ ?_)
                · intro u hu; simp at hu; subst hu; rfl
                · unfold maxLen; omega
                · omega
                · simp; omega
                intro v4 w4 o4 g4 b4
                obtain ⟨j2, hI5⟩ := hI3.next (p := m) (by omega) g4 o4 b4
                have q1 := j2.cell 1
                have z1 := j2.frozen 1
                clear o4 g4 b4 hI3 j2
                go_wp2
                go_roundw
                case rel => exact ⟨i + 1, _, _, by omega, by go_num, HL2, by rw [EE.out.1, EE.out.2]; exact hI5⟩
                case measure => simp [Go.RowKit.intOf]; omega
        · obtain rfl : i = k := by omega
          have e : l = L := by rw [HL.out, List.take_of_length_le (by omega)]
          subst e
          obtain ⟨AT, cT, rfl, -, -, -⟩ := own_form hI.t
          obtain ⟨Aa, ca, rfl, -, -, -⟩ := own_form hI.a
          have d0 := hI.b1.cell 0
          have d1 := hI.b1.cell 1
          have y0 := hI.b1.frozen 0
          have y1 := hI.b1.frozen 1
          have e0 := hI.b2.cell 0
          have e1 := hI.b2.cell 1
          have HI := Lib.hid hI
          have HLL := Lib.hid hl
          clear hl
          clear hin hI HL h
          go_wp2
          have hS : ∀ (v : Value) (m : Nat) (t : TypeId) (xs : List Value), W2.ownsRow (w.heap.size + 2) t 1 v m xs → ((W2.setCell ⟨w.heap.size, 0, none⟩ (.slice AT (ddT l).length cT)).setCell ⟨w.heap.size, 1, none⟩ (.int .i64 i)).ownsRow w.heap.size t 1 v m xs := fun v m t xs ho =>
            own_mono (ownsRow_setCell_below (ownsRow_setCell_below ho (a := ⟨w.heap.size, 0, none⟩) (by show w.heap.size < w.heap.size + 2; omega) _) (a := ⟨w.heap.size, 1, none⟩) (by show w.heap.size < w.heap.size + 2; omega) _) (by omega)
          have p1 := hS _ _ _ _ HI.out.t
          have p2 := hS _ _ _ _ HI.out.a
          have hbG := (HI.out.b.setCell (p := ⟨w.heap.size, 0, none⟩) (by show w.heap.size ≤ w.heap.size; omega) (.slice AT (ddT l).length cT)).setCell (p := ⟨w.heap.size, 1, none⟩) (by show w.heap.size ≤ w.heap.size; omega) (.int .i64 i)
          refine bodyPost_ret (v := .tuple #[.agg #[.slice AT (ddT l).length cT, .int .i64 i], .slice Aa i ca, .int .i64 0]) (by simp [results, Tryd.results9, go_sem, d0, d1, e0, e1]) rfl ?_
          rw [HF.out.1, HF.out.2.1, HF.out.2.2]
          exact ⟨_, _, rfl, p1, by rw [atT_len, HLL.out]; exact p2, hbG⟩
end Go.Proofs.YtllcecnkbndokaaDoor
namespace Go.Proofs.YtllcecnkbndokaaDoor
open Go.RowKit Go.Lib

theorem ckTab_dd {L : List (List UInt8)} (h : ckT L = 0) (hn : L.length ≤ 1000) : ckTab (ddT L) (L.length : Int) = 0 := by
  have h1 := dd_len L
  have h2 := len_of_sub (ddT L) (ddT (ddT L)) (nodup_dd L) (fun x hx => (mem_dd _ x).2 hx)
  have h3 : ckT (ddT L) = 0 := (ckT_zero _).2 fun l hl => (ckT_zero L).1 h l ((mem_dd L l).1 hl)
  unfold ckTab
  rw [if_neg (by omega), if_neg (by rw [h3]; simp), if_neg (by omega), if_neg (by omega)]
theorem bT_len (L : List (List UInt8)) : (bT L).length ≤ L.length ∧ (bA L).length ≤ L.length := by
  unfold bT bA
  by_cases h : ckT L = 0
  · rw [if_pos h, if_pos h]; exact ⟨dd_len L, by rw [atT_len]; exact Nat.le_refl _⟩
  · rw [if_neg h, if_neg h]; exact ⟨Nat.zero_le _, Nat.zero_le _⟩
/-- A table in a box: the program's, the reference's. -/
structure TBx (ty : TypeId) (W : World) (g : Nat) (A : Option Addr) (c : Nat) (M : List (List UInt8)) (U : Int) (q : Nat) : Prop where
  k : Bk W g ty #[.slice A q c, .int .i64 U]
  r : Rd W W.heap.size 1 A q (M.map tv)
theorem TBx.below {ty : TypeId} {W W' : World} {g : Nat} {A : Option Addr} {c : Nat} {M : List (List UInt8)} {U : Int} {q : Nat} (h : TBx ty W g A c M U q) (hb : Below W.heap.size W W') : TBx ty W' g A c M U q := ⟨h.k.below hb h.k.lt, (h.r.belowMono hb (Nat.le_refl _)).mono hb.size⟩
structure BS (w W : World) (g3 g6 : Nat) (At : Option Addr) (ct : Nat) (Bt : Option Addr) (bt : Nat) (Aa : Option Addr) (ca : Nat) (Ba : Option Addr) (ba : Nat) (M : List (List UInt8)) (P : List Nat) (U : Int) (q r : Nat) : Prop where
  t : TBx 26 W g3 At ct M U q
  s : TBx 31 W g6 Bt bt M U q
  a : Rd W W.heap.size 1 Aa r ((P.map fun (p : Nat) => (p : Int)).map iv)
  p : Rd W W.heap.size 1 Ba r ((P.map fun (p : Nat) => (p : Int)).map iv)
  b : Below w.heap.size w W
section
variable {w W W' : World} {g3 g6 ct bt ca ba q r : Nat} {At Bt Aa Ba : Option Addr} {M : List (List UInt8)} {P : List Nat} {U : Int}
theorem BS.below (h : BS w W g3 g6 At ct Bt bt Aa ca Ba ba M P U q r) (hb : Below W.heap.size W W') : BS w W' g3 g6 At ct Bt bt Aa ca Ba ba M P U q r :=
  ⟨h.t.below hb, h.s.below hb, (h.a.belowMono hb (Nat.le_refl _)).mono hb.size, (h.p.belowMono hb (Nat.le_refl _)).mono hb.size, h.b.trans (hb.mono h.b.size)⟩
theorem BS.drew (h : BS w W g3 g6 At ct Bt bt Aa ca Ba ba M P U q r) : BS w W.drew g3 g6 At ct Bt bt Aa ca Ba ba M P U q r := h.below ((Below.refl _ _).drew)
end

set_option maxHeartbeats 16000000 in
set_option maxRecDepth 100000 in
theorem buildsLaw_any {w : World} {B n c : Nat} {A : Option Addr} {L : List (List UInt8)} (HV : Val w) (h : Rd w B 1 A n (L.map tv)) (hB : B ≤ w.heap.size) (hsz : ∀ l ∈ L, l.length ≤ 1000000000000000) :
    Calls Tryd.prog 3 #[.slice A n c] w fun e w' => e = .returned (.bool true) ∧ Below w.heap.size w w' := by
  have hl := h.tlen
  have HVV := Lib.hid HV
  clear HV
  go_enter Tryd.func3, Tryd.ntmps3
  go_wp2_with fail
  refine (known_any HVV.out).mono ?_
  rintro e w1 ⟨rfl, hb1⟩
  have HFW := few_any (c := c) (h.belowMono hb1 hB) hsz
  clear hsz
  cases hf : fewB L
  · rw [hf] at HFW
    go_wp2_with fail
    refine HFW.mono ?_
    rintro e w2 ⟨rfl, rfl⟩
    go_wp2
    go_ret
    exact ⟨rfl, hb1⟩
  · rw [hf] at HFW
    obtain ⟨hn, hss⟩ := fewB_len hf
    rw [hl] at hn
    go_wp2_with fail
    refine HFW.mono ?_
    rintro e w2 ⟨rfl, rfl⟩
    clear HFW hf
    have hsl : ∀ l ∈ L, l.length ≤ 100000 := fun l hl => by have := hss l hl; omega
    have HB1 := build_any (c := c) (HVV.out.below hb1) (h.belowMono hb1 hB) (Nat.le_trans hB hb1.size) (by omega) hsl
    have HB2 := Lib.hid (fun (W : World) (hb : Below w.heap.size w W) => bBuild_any (c := c) (h.belowMono hb hB) (Nat.le_trans hB hb.size) (by omega) hsl)
    have HSL := Lib.hid hsl
    have hbl := bT_len L
    obtain ⟨E, hE⟩ : ∃ E, ckT L = E := ⟨_, rfl⟩
    have HE := Lib.hid hE
    have HM := Lib.hid (show ckT L = 0 → bT L = ddT L ∧ bU L = (L.length : Int) ∧ bA L = atT L from fun h0 => bld_ok h0)
    rw [hE] at HB1 HB2
    clear hE hss hsl
    generalize bT L = M at *
    generalize bU L = U at *
    generalize bA L = P at *
    generalize hq : M.length = q at *
    generalize hr : P.length = r at *
    have HQ := Lib.hid hq
    clear hq hr
    go_wp2_with fail
    refine HB1.mono ?_
    rintro e w3 ⟨xv, av, rfl, o1, o2, hb3⟩
    obtain ⟨At, ct, rfl, -, -, rt⟩ := own_form o1
    obtain ⟨Aa, ca, rfl, -, -, ra⟩ := own_form o2
    have hW3 := bx1' w3 (.cells #[.slice At q ct, .int .i64 U] 26)
    have t4 : TBx 26 (w3.alloc (.cells #[.slice At q ct, .int .i64 U] 26)) w3.heap.size At ct M U q := ⟨Bk.new _ _ _, (rt.belowMono hW3 (Nat.le_refl _)).mono hW3.size⟩
    have a4 := (ra.belowMono hW3 (Nat.le_refl _)).mono hW3.size
    have hb4 := (hb1.trans (hb3.mono hb1.size)).trans (hW3.mono (hb1.trans (hb3.mono hb1.size)).size)
    clear o1 o2 rt ra hb3 HB1 hb1 hW3
    go_wp2_with fail
    generalize hWW : w3.alloc (.cells #[.slice At q ct, .int .i64 U] 26) = w4 at *
    clear hWW
    generalize w3.heap.size = g3 at *
    refine (HB2.out w4 hb4).mono ?_
    rintro e w5 ⟨xv, av, rfl, o1, o2, hb5⟩
    obtain ⟨Bt, bt, rfl, -, -, rs⟩ := own_form o1
    obtain ⟨Ba, ba, rfl, -, -, rp⟩ := own_form o2
    have hW5 := bx1' w5 (.cells #[.slice Bt q bt, .int .i64 U] 31)
    have hb6 := hb5.trans (hW5.mono hb5.size)
    rw [nv_iv] at a4 rp
    have HBS := Lib.hid (show BS w (w5.alloc (.cells #[.slice Bt q bt, .int .i64 U] 31)) g3 w5.heap.size At ct Bt bt Aa ca Ba ba M P U q r from
      ⟨t4.below hb6, ⟨Bk.new _ _ _, (rs.belowMono hW5 (Nat.le_refl _)).mono hW5.size⟩, (a4.belowMono hb6 (Nat.le_refl _)).mono hb6.size, (rp.belowMono hW5 (Nat.le_refl _)).mono hW5.size, hb4.trans (hb6.mono hb4.size)⟩)
    clear t4 a4 rs rp o1 o2 hb5 hW5 hb6 hb4 HB2
    have hEE : (E != E) = false := by simp
    go_wp2_with fail
    clear hEE
    generalize hWW : w5.alloc (.cells #[.slice Bt q bt, .int .i64 U] 31) = w6 at *
    clear hWW
    generalize w5.heap.size = g6 at *
    try simp only [List.append]
    refine wp_region_phases (S := (fun _ W => BS w W g3 g6 At ct Bt bt Aa ca Ba ba M P U q r)) (E := (fun W W' => Below W.heap.size W W')) [] [(0, Is (.slice A n c)), (2, Is (.bool false)), (3, Is (.pointer (some ⟨g3, 0, none⟩))), (4, Is (.slice Aa r ca)), (5, Is (.int .i64 E)), (6, Is (.pointer (some ⟨g6, 0, none⟩))), (7, Is (.slice Ba r ba)), (8, Is (.int .i64 E))] [(27, Is (.int .i64 E)), (28, Is (.int .i64 E)), (29, Is (.bool false)), (30, Is (.bool false)), (31, Is (.agg #[.slice At q ct, .int .i64 U])), (32, Is (.agg #[.slice At q ct, .int .i64 U])), (33, Is (.agg #[.slice Bt q bt, .int .i64 U])), (34, Is (.bool true)), (35, Is (.bool false)), (36, Is (.bool false)), (37, Is (.bool false)), (38, Is (.slice Aa r ca)), (39, Is (.slice Ba r ba)), (40, Is (.bool true)), (41, Is (.bool false)), (42, Is (.bool false))]
      [.op [5] none, .op [8] none, .op [27, 28] none, .op [29] none, .op [3, 30] (some (30, false)), .op [31, 30] (some (30, false)), .op [6, 30] (some (30, false)), .op [32, 33, 30] (some (30, false)), .op [34, 30] (some (30, false)), .op [30, 35] none, .op [36] none, .op [4, 37] (some (37, false)), .op [7, 37] (some (37, false)), .op [38, 39, 37] (some (37, false)), .op [40, 37] (some (37, false)), .op [37, 41] none] (by as_aux_lemma => kernel_rfl) ?_ ?_ ?_ ?_ ?_ ⟨stable_is _ _, stable_is _ _, stable_is _ _, stable_is _ _, stable_is _ _, stable_is _ _, stable_is _ _, stable_is _ _, stable_is _ _, stable_is _ _, stable_is _ _, stable_is _ _, stable_is _ _, stable_is _ _, stable_is _ _, stable_is _ _, stable_is _ _, stable_is _ _, stable_is _ _, stable_is _ _, stable_is _ _, stable_is _ _, stable_is _ _, stable_is _ _, trivial⟩ ?_ HBS.out.drew ?_ ?_
    · as_aux_lemma => kernel_rfl
    · as_aux_lemma => kernel_rfl
    · as_aux_lemma => kernel_rfl
    · as_aux_lemma => kernel_rfl
    · as_aux_lemma => kernel_rfl
    · exact ⟨rfl, rfl, rfl, rfl, rfl, rfl, rfl, rfl, trivial⟩
    · refine ⟨?_, ?_, ?_, ?_, ?_, ?_, ?_, ?_, ?_, ?_, ?_, ?_, ?_, ?_, ?_, ?_, trivial⟩
      · as_aux_lemma =>
          intro vals a W hS hL
          have e5 : a.tmps.getD 5 undef = .int .i64 E := hL.1
          clear hL
          go_simp
          exact ⟨⟨fun d hd => by injection hd with hd; subst hd; rfl, fun h => by cases h⟩, hS, Below.refl _ _⟩
      · as_aux_lemma =>
          intro vals a W hS hL
          have e8 : a.tmps.getD 8 undef = .int .i64 E := hL.1
          clear hL
          go_simp
          exact ⟨⟨fun d hd => by injection hd with hd; subst hd; rfl, fun h => by cases h⟩, hS, Below.refl _ _⟩
      · as_aux_lemma =>
          intro vals a W hS hL
          have e27 : a.tmps.getD 27 undef = .int .i64 E := hL.1
          have e28 : a.tmps.getD 28 undef = .int .i64 E := hL.2.1
          clear hL
          have hEE : (E != E) = false := by simp
          go_simp
          exact ⟨⟨fun d hd => by injection hd with hd; subst hd; rfl, fun h => by cases h⟩, hS, Below.refl _ _⟩
      · as_aux_lemma =>
          intro vals a W hS hL
          have e29 : a.tmps.getD 29 undef = .bool false := hL.1
          clear hL
          go_simp
          exact ⟨⟨fun d hd => by injection hd with hd; subst hd; rfl, fun h => by cases h⟩, hS, Below.refl _ _⟩
      · as_aux_lemma =>
          intro vals a W hS hL
          have e3 : a.tmps.getD 3 undef = .pointer (some ⟨g3, 0, none⟩) := hL.1
          have e30 : a.tmps.getD 30 undef = .bool false := hL.2.1
          clear hL
          refine ⟨false, e30, ?_⟩
          rw [if_pos rfl]
          have kb : Bk W g3 26 #[.slice At q ct, .int .i64 U] := hS.t.k
          have f0 := kb.cell 0
          have f1 := kb.cell 1
          clear kb
          go_simp
          exact ⟨⟨fun d hd => by injection hd with hd; subst hd; rfl, fun h => by cases h⟩, hS, Below.refl _ _⟩
      · as_aux_lemma =>
          intro vals a W hS hL
          have e31 : a.tmps.getD 31 undef = .agg #[.slice At q ct, .int .i64 U] := hL.1
          have e30 : a.tmps.getD 30 undef = .bool false := hL.2.1
          clear hL
          refine ⟨false, e30, ?_⟩
          rw [if_pos rfl]
          go_simp
          refine of_any.mono ?_
          rintro e W' ⟨rfl, hb⟩
          exact ⟨_, rfl, ⟨fun d hd => by injection hd with hd; subst hd; rfl, fun h => by cases h⟩, hS.below hb, hb⟩
      · as_aux_lemma =>
          intro vals a W hS hL
          have e6 : a.tmps.getD 6 undef = .pointer (some ⟨g6, 0, none⟩) := hL.1
          have e30 : a.tmps.getD 30 undef = .bool false := hL.2.1
          clear hL
          refine ⟨false, e30, ?_⟩
          rw [if_pos rfl]
          have kb : Bk W g6 31 #[.slice Bt q bt, .int .i64 U] := hS.s.k
          have f0 := kb.cell 0
          have f1 := kb.cell 1
          clear kb
          go_simp
          exact ⟨⟨fun d hd => by injection hd with hd; subst hd; rfl, fun h => by cases h⟩, hS, Below.refl _ _⟩
      · as_aux_lemma =>
          intro vals a W hS hL
          have e32 : a.tmps.getD 32 undef = .agg #[.slice At q ct, .int .i64 U] := hL.1
          have e33 : a.tmps.getD 33 undef = .agg #[.slice Bt q bt, .int .i64 U] := hL.2.1
          have e30 : a.tmps.getD 30 undef = .bool false := hL.2.2.1
          clear hL
          refine ⟨false, e30, ?_⟩
          rw [if_pos rfl]
          go_simp
          refine (sameTab_any (c := ct) (c' := bt) (u := U) (u' := U) hS.t.r hS.s.r (Nat.le_refl _) (by omega) (by omega)).mono ?_
          rw [decide_eq_true rfl, decide_eq_true rfl]
          rintro e W' ⟨rfl, hb⟩
          exact ⟨_, rfl, ⟨fun d hd => by injection hd with hd; subst hd; rfl, fun h => by cases h⟩, hS.below hb, hb⟩
      · as_aux_lemma =>
          intro vals a W hS hL
          have e34 : a.tmps.getD 34 undef = .bool true := hL.1
          have e30 : a.tmps.getD 30 undef = .bool false := hL.2.1
          clear hL
          refine ⟨false, e30, ?_⟩
          rw [if_pos rfl]
          go_simp
          exact ⟨⟨fun d hd => by injection hd with hd; subst hd; rfl, fun h => by cases h⟩, hS, Below.refl _ _⟩
      · as_aux_lemma =>
          intro vals a W hS hL
          have e30 : a.tmps.getD 30 undef = .bool false := hL.1
          have e35 : a.tmps.getD 35 undef = .bool false := hL.2.1
          clear hL
          go_simp
          exact ⟨⟨fun d hd => by injection hd with hd; subst hd; rfl, fun h => by cases h⟩, hS, Below.refl _ _⟩
      · as_aux_lemma =>
          intro vals a W hS hL
          have e36 : a.tmps.getD 36 undef = .bool false := hL.1
          clear hL
          go_simp
          exact ⟨⟨fun d hd => by injection hd with hd; subst hd; rfl, fun h => by cases h⟩, hS, Below.refl _ _⟩
      · as_aux_lemma =>
          intro vals a W hS hL
          have e4 : a.tmps.getD 4 undef = .slice Aa r ca := hL.1
          have e37 : a.tmps.getD 37 undef = .bool false := hL.2.1
          clear hL
          refine ⟨false, e37, ?_⟩
          rw [if_pos rfl]
          go_simp
          exact ⟨⟨fun d hd => by injection hd with hd; subst hd; rfl, fun h => by cases h⟩, hS, Below.refl _ _⟩
      · as_aux_lemma =>
          intro vals a W hS hL
          have e7 : a.tmps.getD 7 undef = .slice Ba r ba := hL.1
          have e37 : a.tmps.getD 37 undef = .bool false := hL.2.1
          clear hL
          refine ⟨false, e37, ?_⟩
          rw [if_pos rfl]
          go_simp
          exact ⟨⟨fun d hd => by injection hd with hd; subst hd; rfl, fun h => by cases h⟩, hS, Below.refl _ _⟩
      · as_aux_lemma =>
          intro vals a W hS hL
          have e38 : a.tmps.getD 38 undef = .slice Aa r ca := hL.1
          have e39 : a.tmps.getD 39 undef = .slice Ba r ba := hL.2.1
          have e37 : a.tmps.getD 37 undef = .bool false := hL.2.2.1
          clear hL
          refine ⟨false, e37, ?_⟩
          rw [if_pos rfl]
          go_simp
          refine (ints_any (c := ca) (c' := ba) hS.a hS.p (by omega) (by omega)).mono ?_
          rw [decide_eq_true rfl]
          rintro e W' ⟨rfl, hb⟩
          exact ⟨_, rfl, ⟨fun d hd => by injection hd with hd; subst hd; rfl, fun h => by cases h⟩, hS.below hb, hb⟩
      · as_aux_lemma =>
          intro vals a W hS hL
          have e40 : a.tmps.getD 40 undef = .bool true := hL.1
          have e37 : a.tmps.getD 37 undef = .bool false := hL.2.1
          clear hL
          refine ⟨false, e37, ?_⟩
          rw [if_pos rfl]
          go_simp
          exact ⟨⟨fun d hd => by injection hd with hd; subst hd; rfl, fun h => by cases h⟩, hS, Below.refl _ _⟩
      · as_aux_lemma =>
          intro vals a W hS hL
          have e37 : a.tmps.getD 37 undef = .bool false := hL.1
          have e41 : a.tmps.getD 41 undef = .bool false := hL.2.1
          clear hL
          go_simp
          exact ⟨⟨fun d hd => by injection hd with hd; subst hd; rfl, fun h => by cases h⟩, hS, Below.refl _ _⟩
    · intro a W' vals hd hsz hT hF hv hP hS
      have e0 : a.tmps.getD 0 undef = .slice A n c := hT 0 (by simp)
      have e2 : a.tmps.getD 2 undef = .bool false := hT 2 (by simp)
      have e3 : a.tmps.getD 3 undef = .pointer (some ⟨g3, 0, none⟩) := hT 3 (by simp)
      have e4 : a.tmps.getD 4 undef = .slice Aa r ca := hT 4 (by simp)
      have e5 : a.tmps.getD 5 undef = .int .i64 E := hT 5 (by simp)
      have e6 : a.tmps.getD 6 undef = .pointer (some ⟨g6, 0, none⟩) := hT 6 (by simp)
      have e7 : a.tmps.getD 7 undef = .slice Ba r ba := hT 7 (by simp)
      have e8 : a.tmps.getD 8 undef = .int .i64 E := hT 8 (by simp)
      have e42 : a.tmps.getD 42 undef = .bool false := hT 42 (by simp)
      have HS := Lib.hid hS
      clear hT hF hP hS HBS
      rw [act_lit 84 a hd hsz]
      simp only [List.range, List.range.loop, List.map, e0, e2, e3, e4, e5, e6, e7, e8, e42]
      clear e0 e2 e3 e4 e5 e6 e7 e8 e42 hsz hd
      generalize a.tmps.getD 1 undef = y1
      generalize a.tmps.getD 9 undef = y9
      generalize a.tmps.getD 10 undef = y10
      generalize a.tmps.getD 11 undef = y11
      generalize a.tmps.getD 12 undef = y12
      generalize a.tmps.getD 13 undef = y13
      generalize a.tmps.getD 14 undef = y14
      generalize a.tmps.getD 15 undef = y15
      generalize a.tmps.getD 16 undef = y16
      generalize a.tmps.getD 17 undef = y17
      generalize a.tmps.getD 18 undef = y18
      generalize a.tmps.getD 19 undef = y19
      generalize a.tmps.getD 20 undef = y20
      generalize a.tmps.getD 21 undef = y21
      generalize a.tmps.getD 22 undef = y22
      generalize a.tmps.getD 23 undef = y23
      generalize a.tmps.getD 24 undef = y24
      generalize a.tmps.getD 25 undef = y25
      generalize a.tmps.getD 26 undef = y26
      generalize a.tmps.getD 27 undef = y27
      generalize a.tmps.getD 28 undef = y28
      generalize a.tmps.getD 29 undef = y29
      generalize a.tmps.getD 30 undef = y30
      generalize a.tmps.getD 31 undef = y31
      generalize a.tmps.getD 32 undef = y32
      generalize a.tmps.getD 33 undef = y33
      generalize a.tmps.getD 34 undef = y34
      generalize a.tmps.getD 35 undef = y35
      generalize a.tmps.getD 36 undef = y36
      generalize a.tmps.getD 37 undef = y37
      generalize a.tmps.getD 38 undef = y38
      generalize a.tmps.getD 39 undef = y39
      generalize a.tmps.getD 40 undef = y40
      generalize a.tmps.getD 41 undef = y41
      generalize a.tmps.getD 43 undef = y43
      generalize a.tmps.getD 44 undef = y44
      generalize a.tmps.getD 45 undef = y45
      generalize a.tmps.getD 46 undef = y46
      generalize a.tmps.getD 47 undef = y47
      generalize a.tmps.getD 48 undef = y48
      generalize a.tmps.getD 49 undef = y49
      generalize a.tmps.getD 50 undef = y50
      generalize a.tmps.getD 51 undef = y51
      generalize a.tmps.getD 52 undef = y52
      generalize a.tmps.getD 53 undef = y53
      generalize a.tmps.getD 54 undef = y54
      generalize a.tmps.getD 55 undef = y55
      generalize a.tmps.getD 56 undef = y56
      generalize a.tmps.getD 57 undef = y57
      generalize a.tmps.getD 58 undef = y58
      generalize a.tmps.getD 59 undef = y59
      generalize a.tmps.getD 60 undef = y60
      generalize a.tmps.getD 61 undef = y61
      generalize a.tmps.getD 62 undef = y62
      generalize a.tmps.getD 63 undef = y63
      generalize a.tmps.getD 64 undef = y64
      generalize a.tmps.getD 65 undef = y65
      generalize a.tmps.getD 66 undef = y66
      generalize a.tmps.getD 67 undef = y67
      generalize a.tmps.getD 68 undef = y68
      generalize a.tmps.getD 69 undef = y69
      generalize a.tmps.getD 70 undef = y70
      generalize a.tmps.getD 71 undef = y71
      generalize a.tmps.getD 72 undef = y72
      generalize a.tmps.getD 73 undef = y73
      generalize a.tmps.getD 74 undef = y74
      generalize a.tmps.getD 75 undef = y75
      generalize a.tmps.getD 76 undef = y76
      generalize a.tmps.getD 77 undef = y77
      generalize a.tmps.getD 78 undef = y78
      generalize a.tmps.getD 79 undef = y79
      generalize a.tmps.getD 80 undef = y80
      generalize a.tmps.getD 81 undef = y81
      generalize a.tmps.getD 82 undef = y82
      generalize a.tmps.getD 83 undef = y83
      have hbF := HS.out.b
      by_cases h0 : E = 0
      · subst h0
        obtain ⟨e1, e2, e3⟩ := HM.out HE.out
        subst e1 e2 e3
        have qt := HS.out.t.r
        have c30 := HS.out.t.k.cell 0
        have ra := HS.out.a
        rw [← nv_iv] at ra
        have hL := h.belowMono hbF hB
        have hat := fun i hi => atT_at L i hi
        have HCH := Lib.hid (fun (W : World) (hb : Below W'.heap.size W' W) => by
          have := checkTab_any (c := ct) (u := (L.length : Int)) (HVV.out.below (hbF.trans (hb.mono hbF.size))) ((HS.out.t.below hb).r) (Nat.le_refl _) (by omega) (fun l hm => HSL.out l ((mem_dd L l).1 hm))
          rw [ckTab_dd HE.out (by omega)] at this
          exact this)
        have HS2 := HS
        have hrn : r = n := by have := HS.out.a.len; simp [atT_len] at this; omega
        subst hrn
        clear h HM HE HS
        go_wp2
        go_loopw [9] (fun i wr => ∃ k d : Nat, k ≤ r ∧ i = .int .i64 k ∧ wr = W'.drewN d) (fun i _ => r - (Go.RowKit.intOf i).toNat)
        case atStart => exact ⟨0, 0, Nat.zero_le _, rfl, rfl⟩
        case round =>
          obtain ⟨k, d, hk, rfl, rfl⟩ := hrel
          by_cases hkn : k < r
          · have hkn' : (k : Int) < (r : Int) := by omega
            obtain ⟨z, p, rfl, _, hx, hc⟩ := ra.natAt hkn
            obtain ⟨z2, y, rfl, _, hy, hc2⟩ := hL.tvAt hkn
            obtain ⟨h1, h2⟩ := hat k (by omega)
            rw [hx] at h1
            injection h1 with h1
            rw [← h1] at h2
            have hyy : L[k]'(by omega) = y := (List.getElem?_eq_some_iff.1 hy).2
            rw [hyy] at h2
            have hpq : p < q := by have := (List.getElem?_eq_some_iff.1 h2).1; have := HQ.out; omega
            obtain ⟨z3, x, rfl, _, hx3, hc3⟩ := qt.tvAt hpq
            rw [h2] at hx3
            injection hx3 with hx3
            subst hx3
            have e3 := strOf_eq y y
            rw [decide_eq_true rfl] at e3
            have hp0 : ¬ (p : Int) < 0 := by omega
            have hpq' : (p : Int) < (q : Int) := by omega
            have hpq2 : ¬ (q : Int) ≤ (p : Int) := by omega
            clear hx hy h1 h2 hyy hat qt ra hL
            go_wp2
            go_quiet (fail)
            go_wp2
            go_roundw
            case rel => exact ⟨k + 1, _, by omega, by go_num, rfl⟩
            case measure => simp [Go.RowKit.intOf]; omega
          · obtain rfl : k = r := by omega
            have c31 := HS2.out.t.k.cell 1
            have hbd := below_drewN hbF d
            have hch := HCH.out (W'.drewN d) (below_refl_drewN W' d)
            have HLL := Lib.hid hl
            rw [hl] at hch c31
            clear hkn hat qt ra hL hl
            go_wp2_with fail
            refine hch.mono ?_
            rintro e w9 ⟨rfl, hb9⟩
            go_wp2
            go_ret
            exact ⟨rfl, hbd.trans (hb9.mono hbd.size)⟩
      · have hb0 : (E != 0) = true := by simpa using h0
        clear h0 HM HE HS h
        go_wp2
        go_ret
        exact ⟨rfl, hbF⟩
end Go.Proofs.YtllcecnkbndokaaDoor
