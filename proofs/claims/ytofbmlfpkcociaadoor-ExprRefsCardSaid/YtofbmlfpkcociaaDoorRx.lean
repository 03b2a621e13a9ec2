/- ExprRefs by its contract: it returns true. Condition: utf8.ValidString keeps its contract. -/
import Derived.Test.YtofbmlfpkcociaaDoorKn
import Derived.Test.YtofbmlfpkcociaaDoorFw
import Derived.Test.YtofbmlfpkcociaaDoorRl
import Derived.Test.YtofbmlfpkcociaaDoorPhu
import Derived.Test.YtofbmlfpkcociaaDoorSm
set_option linter.unusedVariables false
set_option linter.unusedSimpArgs false
namespace Go.Proofs.YtofbmlfpkcociaaDoor
open Go.RowKit

set_option maxRecDepth 20000 in
set_option maxHeartbeats 8000000 in
theorem refsLaw {w : World} (HV : Val w) {ts : List Tr} {A : Option Addr} {c : Nat} (hc : ts.length ≤ c) (hrow : RowF treeF w (· < w.heap.size) A ts.length ts) (hcm : c ≤ maxLen) (n : Nat) (hn : n < 256) :
    Calls Tryd.prog 5 #[.slice A ts.length c, .int .u8 n] w fun e W => e = .returned (.bool true) ∧ Below w.heap.size w W := by
  have hlm : ts.length ≤ 9223372036854775807 := by unfold maxLen at hcm; omega
  have HX := Lib.hid (And.intro HV (And.intro hrow hc))
  have HB := Lib.hid (Below.refl w.heap.size w)
  have hm30 : ((n : Int).tmod 30) = ((n % 30 : Nat) : Int) := (Int.ofNat_tmod n 30).symm
  obtain ⟨m, hm⟩ : ∃ m, m = n % 30 := ⟨_, rfl⟩
  rw [← hm] at hm30
  have hm3 : m < 30 := by omega
  clear HV hrow hc hn hm
  by_cases h10 : 10 < ts.length
  · have h10' : (10 : Int) < (ts.length : Int) := by omega
    clear hm30
    go_enter Tryd.func5, Tryd.ntmps5
    repeat' (first | go_values | go_skip | go_guarded | go_step | go_upon)
    refine (known_any HX.out.1).mono ?_
    rintro e W1 ⟨rfl, hB1⟩
    have HB := Lib.hid (HB.out.trans hB1)
    clear hB1
    dsimp only
    repeat' (first | go_values | go_skip | go_guarded | go_step | go_upon)
    exact bodyPost_ret (v := .bool true) (by simp [results, Tryd.results5, go_sem]) rfl ⟨rfl, HB.out⟩
  · have h10' : ¬ (10 : Int) < (ts.length : Int) := by omega
    have hm30 := Lib.hid hm30
    go_enter Tryd.func5, Tryd.ntmps5
    repeat' (first | go_values | go_skip | go_guarded | go_step | go_upon)
    refine (known_any HX.out.1).mono ?_
    rintro e W1 ⟨rfl, hB1⟩
    have HX := Lib.hid (And.intro (HX.out.1.below hB1) (And.intro (HX.out.2.1.below hB1 (Nat.le_refl _)) HX.out.2.2))
    have HB := Lib.hid (HB.out.trans hB1)
    clear hB1
    dsimp only
    repeat' (first | go_values | go_skip | go_guarded | go_step | go_upon)
    have HL0 := Lib.hid (RfL.start W1)
    go_loopw [5, 6, 7] (fun v5 v6 i wr => ∃ j : Nat, i = .int .i64 j ∧ j ≤ ts.length ∧ Hid (RfL W1 (ts.take j) (rfL (ts.take j)) v5 v6 wr ∧ (rfL (ts.take j)).length ≤ 60 * j ∧ cntL (ts.take j) ≤ 60 * j)) (fun _ _ i _ => ts.length - (intOf i).toNat)
    case atStart => exact ⟨0, rfl, Nat.zero_le _, Lib.hid ⟨HL0.out, Nat.le_refl _, Nat.le_refl _⟩⟩
    case round =>
      obtain ⟨j, rfl, hj, HL⟩ := hrel
      clear HL0
      by_cases hjl : j < ts.length
      · have hjl' : (j : Int) < (ts.length : Int) := by omega
        have hj0 : (0 : Int) ≤ (j : Int) := by omega
        obtain ⟨aa, rfl, hab, hall⟩ := HX.out.2.1.at_ (by omega)
        obtain ⟨t, ht⟩ : ∃ t, ts[j]? = some t := ⟨_, List.getElem?_eq_getElem hjl⟩
        obtain ⟨p, ks⟩ := t
        obtain ⟨cs, hcs, hcell⟩ := hall j (.mk p ks) ht
        obtain ⟨A1, c1, rfl, hc1, hkr1⟩ := tree_mk.1 (show LiT W1 (· < w.heap.size) (.mk p ks) cs from hcs)
        have hBs := HB.out.size
        have HE : Hid (∀ W, Below W1.heap.size W1 W → ∀ (q : Nat) (u : Value), (ec p (.slice A1 ks.length c1))[q]? = some u → W.cell? ((aa.add (j * 18)).add q) = some u) := Lib.hid fun W hW q u hu => by
          rw [add_add]
          exact (hW.cell (by rw [add_block]; omega)).trans (hcell q u hu)
        have HR : Hid (∀ W, Below W1.heap.size W1 W → AtT W p ks A1 c1) := Lib.hid fun W hW => ⟨hc1, (hkr1.below hW (by omega)).mono (by have := hW.size; omega)⟩
        have HT := Lib.hid ht
        clear hab hall ht hcs hcell hkr1 hBs hc1
        repeat' (first | ((with_reducible show Oper.wp _ _ _ _ _ _); apply stop_r; exact rfl) | go_values | go_skip | go_guarded | go_step | go_upon)
        refine Lib.hid ?_
        apply ld_rm
        · exact rfl
        · exact rfl
        · exact HE.out _ HL.out.1.bel
        go_simp
        repeat' (first | go_values | go_skip | go_guarded | go_step | go_upon)
        refine (Few_any (most := 60) (HR.out wr HL.out.1.bel) (by omega)).mono ?_
        rintro e W2 ⟨few, rfl, hB2, hfew⟩
        have HL := Lib.hid (And.intro (HL.out.1.below hB2) HL.out.2)
        clear hB2
        dsimp only
        cases few with
        | false =>
          clear hfew
          repeat' (first | go_values | go_skip | go_guarded | go_step | go_upon)
          exact bodyPost_ret (v := .bool true) (by simp [results, Tryd.results5, go_sem]) rfl ⟨rfl, HB.out.trans (HL.out.1.bel.mono HB.out.size)⟩
        | true =>
          have HF := Lib.hid (hfew rfl)
          clear hfew
          repeat' (first | ((with_reducible show Oper.wp _ _ _ _ _ _); apply stop_r; exact rfl) | go_values | go_skip | go_guarded | go_step | go_upon)
          refine Lib.hid ?_
          apply ld_rm
          · exact rfl
          · exact rfl
          · exact HE.out _ HL.out.1.bel
          go_simp
          repeat' (first | go_values | go_skip | go_guarded | go_step | go_upon)
          refine (to_any 60 p ks HF.out.1 (by omega) W2 A1 c1 (HR.out W2 HL.out.1.bel)).mono ?_
          rintro e W3 ⟨v, rfl, hT, hB3⟩
          obtain ⟨A2, c2, rfl, hc2, hrow⟩ := hT
          have h62 := HL.out.1.kids.lt
          have h63 := HL.out.1.want.lt
          have hr3 : RowF treeF W3 (Fx W1.heap.size u5 u6 W3) A2 ks.length ks := hrow.move (Move.wide fun i hi => ⟨by have := HL.out.1.bel.size; omega, hi.2, fun e => by have := (h62 i e).2; omega, fun e => by have := (h63 i e).2; omega⟩)
          have HL := Lib.hid (And.intro (HL.out.1.below hB3) HL.out.2)
          have HT2 := Lib.hid (And.intro hc2 hr3)
          clear h62 h63 hB3 hc2 hrow hr3
          have hk0 : Bk (W3.alloc (.cells #[.int .i64 0, .int .i64 0, .int .i64 0, .int .i64 0, .string ⟨#[]⟩, .bool false, .int .i64 0, .int .i64 0, .int .i64 0, .bool false, .bool false, .int .i64 0, .int .i64 0, .bool false, .bool false, .int .i64 0, .int .i64 0, .slice none 0 0] 43)) W3.heap.size 43 (ec zp (.slice none 0 0)).toArray := Bk.new _ _ _
          dsimp only
          repeat' (first | ((with_reducible show Oper.wp _ _ _ _ _ _); apply stop_s; exact rfl) | go_values | go_skip | go_guarded | go_step | go_upon)
          refine Lib.hid ?_
          apply st_p
          · exact rfl
          · exact rfl
          · exact rfl
          · exact hk0
          · exact rfl
          intro W4 hk8 hK4 hz4
          have hb4 := made_box hK4
          have h62 := HL.out.1.kids.lt
          have h63 := HL.out.1.want.lt
          have hr4 : RowF treeF W4 (Fx W1.heap.size u5 u6 W4) A2 ks.length ks := HT2.out.2.move (Move.of_below hb4 (fun i hi => hi.2.1) fun i hi => ⟨hi.1, by have := hb4.size; have := hi.2.1; omega, hi.2.2⟩)
          have hn8 : u5.ownBlock ≠ some W3.heap.size ∧ u6.ownBlock ≠ some W3.heap.size := ⟨fun e => by have := (h62 _ e).2; omega, fun e => by have := (h63 _ e).2; omega⟩
          have HL := Lib.hid (And.intro (HL.out.1.below hb4) HL.out.2)
          have HT2 := Lib.hid (And.intro HT2.out.1 hr4)
          have HN8 := Lib.hid hn8
          clear hk0 hK4 hz4 hb4 h62 h63 hr4 hn8
          have hl8 := hk8.lt
          generalize W3.heap.size = g8 at *
          go_simp
          repeat' (first | ((with_reducible show Oper.wp _ _ _ _ _ _); apply ld_p; exact rfl; exact rfl; assumption; go_simp) | ((with_reducible show Oper.wp _ _ _ _ _ _); apply bs_1; exact rfl; exact rfl; go_simp) | ((with_reducible show Oper.wp _ _ _ _ _ _); apply stop_app; exact rfl) | go_values | go_skip | go_guarded | go_step | go_upon)
          refine Lib.hid ?_
          have hb5 := bel0 W4 (.cells (ec p (.slice A2 ks.length c2)).toArray 43)
          have hkn := Bk.new W4 43 (ec p (.slice A2 ks.length c2)).toArray
          have HL := Lib.hid (And.intro (HL.out.1.below hb5) HL.out.2)
          have hr5 := HT2.out.2.move (Move.of_below hb5 (fun i hi => hi.2.1) fun i hi => (⟨hi.1, by have := hb5.size; have := hi.2.1; omega, hi.2.2⟩ : Fx W1.heap.size u5 u6 (W4.alloc (.cells (ec p (.slice A2 ks.length c2)).toArray 43)) i))
          have HT2 := Lib.hid (And.intro HT2.out.1 hr5)
          have hk8 := hk8.below hb5 hl8
          have hl8 := hk8.lt
          clear hb5 hr5
          generalize W4.alloc (.cells (ec p (.slice A2 ks.length c2)).toArray 43) = W5 at *
          obtain ⟨S, hS1, hS2, ho⟩ := HL.out.1.kids.ex
          have htl : (ts.take j).length ≤ 10 := by rw [List.length_take]; omega
          refine wp_app exprRow (.tmp 33) (.tmp 35) rfl rfl rfl ho (bk_rd (k := 18) (n := 1) hkn rfl) (ec_one p) (by unfold maxLen; omega) (by omega) HL.out.1.bel.size ?_
          intro v5 W6 ho6 hG hb6
          have hX6 := HL.out.1.kid hS1 hS2 HT2.out.1 HT2.out.2 ho6 hG hb6
          have hk8 := (Keep.of_grew (S := fun i => u5.ownBlock = some i) hG fun i hi => hi.symm).bk hk8 HN8.out.1
          have hl8 := hk8.lt
          have HL := Lib.hid (And.intro hX6.1 HL.out.2)
          have HT2 : Hid (AtT W6 p ks A2 c2) := Lib.hid ⟨HT2.out.1, hX6.2⟩
          clear hS1 hS2 ho ho6 hG hb6 hX6 hkn htl
          go_simp
          repeat' (first | ((with_reducible show Oper.wp _ _ _ _ _ _); apply ld_p; exact rfl; exact rfl; assumption; go_simp) | go_values | go_skip | go_guarded | go_step | go_upon)
          refine (refs_any HT2.out (Nat.le_trans HF.out.1 (by omega))).mono ?_
          rintro e W7 ⟨vo, rfl, ho7, hb7⟩
          have HL := Lib.hid (And.intro (HL.out.1.below hb7) HL.out.2)
          have hrl : (rfT (.mk p ks)).length ≤ 60 := by
            have h1 := rf_len _ [.mk p ks] (Nat.le_refl _)
            have h2 := HF.out.1
            simp only [rfL, cntL, List.append_nil] at h1
            omega
          obtain ⟨S7, c7, rfl, hle7, -, hrd7⟩ := own_form ho7
          clear ho7 hb7 hle7
          dsimp only
          repeat' (first | ((with_reducible show Oper.wp _ _ _ _ _ _); apply stop_app; exact rfl) | go_values | go_skip | go_guarded | go_step | go_upon)
          refine Lib.hid ?_
          have hwl := HL.out.2.1
          refine wp_app exprRow (.tmp 37) (.tmp 39) rfl rfl rfl HL.out.1.want hrd7 flat_one (by unfold maxLen; omega) (by omega) HL.out.1.bel.size ?_
          intro v6 W8 ho8 hG hb8
          have hX8 := HL.out.1.more ho8 hG hb8
          have HL := Lib.hid (And.intro hX8 (And.intro (show (rfL (ts.take j) ++ rfT (.mk p ks)).length ≤ 60 * (j + 1) by rw [List.length_append]; omega) (show cntL (ts.take j ++ [.mk p ks]) ≤ 60 * (j + 1) by rw [cnt_app]; have := HL.out.2.2; have := HF.out.1; simp only [cntL]; omega)))
          rw [← rf_single, show ts.take j ++ [.mk p ks] = ts.take (j + 1) by rw [List.take_add_one, HT.out]; rfl] at HL
          clear hrd7 ho8 hG hb8 hX8 hwl hrl hk8
          go_simp
          repeat' (first | go_values | go_skip | go_guarded | go_step | go_upon)
          go_roundw
          case rel => exact ⟨j + 1, by go_num, by omega, HL⟩
          case measure => simp [intOf]; omega
      · have hjl' : ¬ (j : Int) < (ts.length : Int) := by omega
        obtain rfl : j = ts.length := by omega
        have HL := HL
        rw [List.take_length] at HL
        have hC : cntT (.mk (callP m) ts) ≤ 100000 := by have := HL.out.2.2; simp only [cntT]; omega
        have hlen : (rfL ts).length ≤ 600 := by have := HL.out.2.1; omega
        have hv6 : RfV (rfL ts) u6 wr := own_rfv HL.out.1.want
        have HB := Lib.hid (HB.out.trans (HL.out.1.bel.mono HB.out.size))
        obtain ⟨A5, c5, rfl, hc5, hr5⟩ := HL.out.1.kids.read (F' := (· < wr.heap.size)) (fun i hi => (HL.out.1.kids.lt i hi).2) (fun i hi => hi.2.1)
        have HA : Hid (AtT wr (callP m) ts A5 c5) := Lib.hid ⟨hc5, hr5⟩
        have HV6 := Lib.hid hv6
        have HK : Hid (∀ p ∈ rfL ts, 2 ≤ p.kind ∧ p.kind ≤ 6) := Lib.hid fun p hp => rf_kind hp
        clear HL hc5 hr5 hv6 hj hjl
        repeat' (first | ((with_reducible show Oper.wp _ _ _ _ _ _); apply stop_b; exact rfl) | go_values | go_skip | go_guarded | go_step | go_upon)
        refine Lib.hid ?_
        refine wp_b (v := .agg (ec (callP m) (.slice A5 ts.length c5)).toArray) (by kernel_rfl) ?_
        go_simp
        repeat' (first | go_values | go_skip | go_guarded | go_step | go_upon)
        refine (refs_row HA.out hC).mono ?_
        rintro e WA ⟨vo, rfl, hr, hb⟩
        rw [call_rf] at hr
        have hr6 := HV6.out.below hb
        have HB := Lib.hid (HB.out.trans (hb.mono HB.out.size))
        clear hb HA HV6 hC
        generalize rfL ts = L at *
        have HR := Lib.hid (And.intro hr hr6)
        obtain ⟨A9, c9, rfl, -, -⟩ := hr
        obtain ⟨A6, c6, rfl, -, -⟩ := hr6
        dsimp only
        repeat' (first | go_values | go_skip | go_guarded | go_step | go_upon)
        go_loopw [10] (fun i wr2 => ∃ k : Nat, i = .int .i64 k ∧ k ≤ L.length ∧ Hid (Below WA.heap.size WA wr2)) (fun i _ => L.length - (intOf i).toNat)
        case atStart => exact ⟨0, rfl, Nat.zero_le _, Lib.hid (Below.refl _ _)⟩
        case round =>
          obtain ⟨k, rfl, hk, HW⟩ := hrel
          by_cases hkn : k < L.length
          · have hkn' : (k : Int) < (L.length : Int) := by omega
            obtain ⟨pk, hpk⟩ : ∃ pk, L[k]? = some pk := ⟨_, List.getElem?_eq_getElem hkn⟩
            obtain ⟨A9', c9', e9', -, h9⟩ := HR.out.1
            obtain ⟨A6', c6', e6', -, h6⟩ := HR.out.2
            injection e9' with q1 q2 q3
            injection e6' with r1 r2 r3
            subst q1 q3 r1 r3
            clear q2 r2
            obtain ⟨a9, rfl, h9b, h9c⟩ := h9 (by omega)
            obtain ⟨a6, rfl, h6b, h6c⟩ := h6 (by omega)
            have HC9 : Hid (∀ W, Below wr.heap.size wr W → ∀ (q : Nat) (u : Value), (ec pk (.slice none 0 0))[q]? = some u → W.cell? ((a9.add (k * 18)).add q) = some u) := Lib.hid fun W hW q u hu => ((HW.out.trans (hW.mono HW.out.size)).cell (by rw [add_block, add_block]; exact h9b)).trans (h9c k pk hpk q u hu)
            have HC6 : Hid (∀ W, Below wr.heap.size wr W → ∀ (q : Nat) (u : Value), (ec pk (.slice none 0 0))[q]? = some u → W.cell? ((a6.add (k * 18)).add q) = some u) := Lib.hid fun W hW q u hu => ((HW.out.trans (hW.mono HW.out.size)).cell (by rw [add_block, add_block]; exact h6b)).trans (h6c k pk hpk q u hu)
            have HSm : Hid (∀ W, Calls Tryd.prog 13 #[.agg (ec pk (.slice none 0 0)).toArray, .agg (ec pk (.slice none 0 0)).toArray] W fun e W2 => e = .returned (.bool true) ∧ Below W.heap.size W W2) := Lib.hid fun W => by
              refine (same_t (w := W) (p := pk) (q := pk) (ks := []) (ms := []) (A := none) (A' := none) (c := 0) (c' := 0) ⟨Nat.le_refl _, RowF.nil _ _ _ _⟩ ⟨Nat.le_refl _, RowF.nil _ _ _ _⟩ (by simp [cntT, cntL]) (by simp [cntT, cntL])).mono ?_
              rintro e W2 ⟨b, rfl, hbe, hb⟩
              refine ⟨?_, hb⟩
              congr 2
              exact hbe.2 rfl
            have HF0 : Hid (∀ W, Below wr.heap.size wr W → W.cell? (a9.add (k * 18)) = some (.int .i64 pk.kind)) := Lib.hid fun W hW => by
              have : W.cell? ((a9.add (k * 18)).add 0) = some (.int .i64 pk.kind) := HC9.out W hW 0 _ rfl
              exact this
            have hkd := HK.out pk (List.mem_of_getElem? hpk)
            have hk2 : decide (pk.kind < 2) = false := by rw [decide_eq_false_iff_not]; omega
            have hk6 : decide (6 < pk.kind) = false := by rw [decide_eq_false_iff_not]; omega
            have hj0 : (0 : Int) ≤ (k : Int) := by omega
            clear h9 h6 h9b h6b h9c h6c hpk hkd
            repeat' (first | go_values | go_skip | go_guarded | go_step | go_upon)
            refine wp_region_phases (S := (fun _ W => Below wr.heap.size wr W)) (E := (fun _ _ => True)) [] [(0, Is (.slice A ts.length c)), (1, Is (.int .u8 n)), (2, Is (undef)), (3, Is (undef)), (4, Is (u4)), (5, Is (.slice A5 ts.length c5)), (6, Is (.slice (some a6) L.length c6)), (7, Is (.int .i64 ts.length)), (8, Is (u8)), (9, Is (.slice (some a9) L.length c9)), (10, Is (.int .i64 k)), (11, Is (.bool true)), (12, Is (.bool false)), (13, Is (.slice A ts.length c)), (14, Is (.int .i64 ts.length)), (15, Is (.bool false)), (16, Is (.int .i64 ts.length)), (17, Is (.slice A ts.length c)), (18, Is (.int .i64 ts.length)), (19, Is (.bool false)), (20, Is (u20)), (21, Is (u21)), (22, Is (u22)), (23, Is (u23)), (24, Is (u24)), (25, Is (u25)), (26, Is (u26)), (27, Is (u27)), (28, Is (u28)), (29, Is (u29)), (30, Is (u30)), (31, Is (u31)), (32, Is (u32)), (33, Is (u33)), (34, Is (u34)), (35, Is (u35)), (36, Is (u36)), (37, Is (u37)), (38, Is (u38)), (39, Is (u39)), (40, Is (u40)), (41, Is (.int .u8 n)), (42, Is (.int .u8 m)), (43, Is (.int .i64 m)), (44, Is (.slice A5 ts.length c5)), (45, Is (.agg (ec (callP m) (.slice A5 ts.length c5)).toArray)), (46, Is (.slice (some a9) L.length c9)), (47, Is (.slice (some a9) L.length c9)), (48, Is (.int .i64 L.length)), (49, Is (.slice (some a6) L.length c6)), (50, Is (.int .i64 L.length)), (51, Is (.bool false))] [(58, Is (.slice (some a9) L.length c9)), (59, Is (.int .i64 k)), (60, Is (.pointer (some (a9.add (k * 18))))), (61, Is (.agg (ec pk (.slice none 0 0)).toArray)), (62, Is (.slice (some a6) L.length c6)), (63, Is (.int .i64 k)), (64, Is (.pointer (some (a6.add (k * 18))))), (65, Is (.agg (ec pk (.slice none 0 0)).toArray)), (66, Is (.bool true)), (67, Is (.bool false)), (68, Is (.bool false)), (69, Is (.slice (some a9) L.length c9)), (70, Is (.int .i64 k)), (71, Is (.pointer (some (a9.add (k * 18))))), (72, Is (.pointer (some (a9.add (k * 18))))), (73, Is (.int .i64 pk.kind)), (74, Is (.bool false)), (75, Is (.bool false)), (76, Is (.bool false)), (77, Is (.slice (some a9) L.length c9)), (78, Is (.int .i64 k)), (79, Is (.pointer (some (a9.add (k * 18))))), (80, Is (.pointer (some (a9.add (k * 18))))), (81, Is (.int .i64 pk.kind)), (82, Is (.bool false)), (83, Is (.bool false))]
              [.op [9] none, .op [10] none, .op [58, 59] none, .op [60] none, .op [6] none, .op [10] none, .op [62, 63] none, .op [64] none, .op [61, 65] none, .op [66] none, .op [67] none, .op [9, 68] (some (68, false)), .op [10, 68] (some (68, false)), .op [69, 70, 68] (some (68, false)), .op [71, 68] (some (68, false)), .op [72, 68] (some (68, false)), .op [73, 68] (some (68, false)), .op [68, 74] none, .op [75] none, .op [9, 76] (some (76, false)), .op [10, 76] (some (76, false)), .op [77, 78, 76] (some (76, false)), .op [79, 76] (some (76, false)), .op [80, 76] (some (76, false)), .op [81, 76] (some (76, false)), .op [76, 82] none] (by as_aux_lemma => kernel_rfl) ?_ ?_ ?_ ?_ ?_ ⟨stable_is _ _, stable_is _ _, stable_is _ _, stable_is _ _, stable_is _ _, stable_is _ _, stable_is _ _, stable_is _ _, stable_is _ _, stable_is _ _, stable_is _ _, stable_is _ _, stable_is _ _, stable_is _ _, stable_is _ _, stable_is _ _, stable_is _ _, stable_is _ _, stable_is _ _, stable_is _ _, stable_is _ _, stable_is _ _, stable_is _ _, stable_is _ _, stable_is _ _, stable_is _ _, stable_is _ _, stable_is _ _, stable_is _ _, stable_is _ _, stable_is _ _, stable_is _ _, stable_is _ _, stable_is _ _, stable_is _ _, stable_is _ _, stable_is _ _, stable_is _ _, stable_is _ _, stable_is _ _, stable_is _ _, stable_is _ _, stable_is _ _, stable_is _ _, stable_is _ _, stable_is _ _, stable_is _ _, stable_is _ _, stable_is _ _, stable_is _ _, stable_is _ _, stable_is _ _, stable_is _ _, stable_is _ _, stable_is _ _, stable_is _ _, stable_is _ _, stable_is _ _, stable_is _ _, stable_is _ _, stable_is _ _, stable_is _ _, stable_is _ _, stable_is _ _, stable_is _ _, stable_is _ _, stable_is _ _, stable_is _ _, stable_is _ _, stable_is _ _, stable_is _ _, stable_is _ _, stable_is _ _, stable_is _ _, stable_is _ _, stable_is _ _, stable_is _ _, stable_is _ _, trivial⟩ ?_ (Below.refl _ _).drew ?_ ?_
            · as_aux_lemma => kernel_rfl
            · as_aux_lemma => kernel_rfl
            · as_aux_lemma => kernel_rfl
            · as_aux_lemma => kernel_rfl
            · as_aux_lemma => kernel_rfl
            · exact ⟨rfl, rfl, rfl, rfl, rfl, rfl, rfl, rfl, rfl, rfl, rfl, rfl, rfl, rfl, rfl, rfl, rfl, rfl, rfl, rfl, rfl, rfl, rfl, rfl, rfl, rfl, rfl, rfl, rfl, rfl, rfl, rfl, rfl, rfl, rfl, rfl, rfl, rfl, rfl, rfl, rfl, rfl, rfl, rfl, rfl, rfl, rfl, rfl, rfl, rfl, rfl, rfl, trivial⟩
            · refine ⟨?_, ?_, ?_, ?_, ?_, ?_, ?_, ?_, ?_, ?_, ?_, ?_, ?_, ?_, ?_, ?_, ?_, ?_, ?_, ?_, ?_, ?_, ?_, ?_, ?_, ?_, trivial⟩
              · as_aux_lemma =>
                  intro vals a W hS hL
                  have e9 : a.tmps.getD 9 undef = .slice (some a9) L.length c9 := hL.1
                  clear hL
                  go_simp
                  exact ⟨⟨fun d hd => by injection hd with hd; subst hd; rfl, fun h => by cases h⟩, hS, trivial⟩
              · as_aux_lemma =>
                  intro vals a W hS hL
                  have e10 : a.tmps.getD 10 undef = .int .i64 k := hL.1
                  clear hL
                  go_simp
                  exact ⟨⟨fun d hd => by injection hd with hd; subst hd; rfl, fun h => by cases h⟩, hS, trivial⟩
              · as_aux_lemma =>
                  intro vals a W hS hL
                  have e58 : a.tmps.getD 58 undef = .slice (some a9) L.length c9 := hL.1
                  have e59 : a.tmps.getD 59 undef = .int .i64 k := hL.2.1
                  clear hL
                  go_simp
                  exact ⟨⟨fun d hd => by injection hd with hd; subst hd; rfl, fun h => by cases h⟩, hS, trivial⟩
              · as_aux_lemma =>
                  intro vals a W hS hL
                  have e60 : a.tmps.getD 60 undef = .pointer (some (a9.add (k * 18))) := hL.1
                  clear hL
                  refine lands_v (run_ldm (p := pk) (k := .slice none 0 0) (.tmp 60) rfl e60 (HC9.out W hS)) ?_
                  exact ⟨⟨fun d hd => by injection hd with hd; subst hd; rfl, fun h => by cases h⟩, hS, trivial⟩
              · as_aux_lemma =>
                  intro vals a W hS hL
                  have e6 : a.tmps.getD 6 undef = .slice (some a6) L.length c6 := hL.1
                  clear hL
                  go_simp
                  exact ⟨⟨fun d hd => by injection hd with hd; subst hd; rfl, fun h => by cases h⟩, hS, trivial⟩
              · as_aux_lemma =>
                  intro vals a W hS hL
                  have e10 : a.tmps.getD 10 undef = .int .i64 k := hL.1
                  clear hL
                  go_simp
                  exact ⟨⟨fun d hd => by injection hd with hd; subst hd; rfl, fun h => by cases h⟩, hS, trivial⟩
              · as_aux_lemma =>
                  intro vals a W hS hL
                  have e62 : a.tmps.getD 62 undef = .slice (some a6) L.length c6 := hL.1
                  have e63 : a.tmps.getD 63 undef = .int .i64 k := hL.2.1
                  clear hL
                  go_simp
                  exact ⟨⟨fun d hd => by injection hd with hd; subst hd; rfl, fun h => by cases h⟩, hS, trivial⟩
              · as_aux_lemma =>
                  intro vals a W hS hL
                  have e64 : a.tmps.getD 64 undef = .pointer (some (a6.add (k * 18))) := hL.1
                  clear hL
                  refine lands_v (run_ldm (p := pk) (k := .slice none 0 0) (.tmp 64) rfl e64 (HC6.out W hS)) ?_
                  exact ⟨⟨fun d hd => by injection hd with hd; subst hd; rfl, fun h => by cases h⟩, hS, trivial⟩
              · as_aux_lemma =>
                  intro vals a W hS hL
                  have e61 : a.tmps.getD 61 undef = .agg (ec pk (.slice none 0 0)).toArray := hL.1
                  have e65 : a.tmps.getD 65 undef = .agg (ec pk (.slice none 0 0)).toArray := hL.2.1
                  clear hL
                  go_simp
                  refine (HSm.out W).mono ?_
                  rintro e W2 ⟨rfl, hb⟩
                  exact ⟨_, rfl, ⟨fun d hd => by injection hd with hd; subst hd; rfl, fun h => by cases h⟩, hS.trans (hb.mono hS.size), trivial⟩
              · as_aux_lemma =>
                  intro vals a W hS hL
                  have e66 : a.tmps.getD 66 undef = .bool true := hL.1
                  clear hL
                  go_simp
                  exact ⟨⟨fun d hd => by injection hd with hd; subst hd; rfl, fun h => by cases h⟩, hS, trivial⟩
              · as_aux_lemma =>
                  intro vals a W hS hL
                  have e67 : a.tmps.getD 67 undef = .bool false := hL.1
                  clear hL
                  go_simp
                  exact ⟨⟨fun d hd => by injection hd with hd; subst hd; rfl, fun h => by cases h⟩, hS, trivial⟩
              · as_aux_lemma =>
                  intro vals a W hS hL
                  have e9 : a.tmps.getD 9 undef = .slice (some a9) L.length c9 := hL.1
                  have e68 : a.tmps.getD 68 undef = .bool false := hL.2.1
                  clear hL
                  refine ⟨false, e68, ?_⟩
                  rw [if_pos rfl]
                  go_simp
                  exact ⟨⟨fun d hd => by injection hd with hd; subst hd; rfl, fun h => by cases h⟩, hS, trivial⟩
              · as_aux_lemma =>
                  intro vals a W hS hL
                  have e10 : a.tmps.getD 10 undef = .int .i64 k := hL.1
                  have e68 : a.tmps.getD 68 undef = .bool false := hL.2.1
                  clear hL
                  refine ⟨false, e68, ?_⟩
                  rw [if_pos rfl]
                  go_simp
                  exact ⟨⟨fun d hd => by injection hd with hd; subst hd; rfl, fun h => by cases h⟩, hS, trivial⟩
              · as_aux_lemma =>
                  intro vals a W hS hL
                  have e69 : a.tmps.getD 69 undef = .slice (some a9) L.length c9 := hL.1
                  have e70 : a.tmps.getD 70 undef = .int .i64 k := hL.2.1
                  have e68 : a.tmps.getD 68 undef = .bool false := hL.2.2.1
                  clear hL
                  refine ⟨false, e68, ?_⟩
                  rw [if_pos rfl]
                  go_simp
                  exact ⟨⟨fun d hd => by injection hd with hd; subst hd; rfl, fun h => by cases h⟩, hS, trivial⟩
              · as_aux_lemma =>
                  intro vals a W hS hL
                  have e71 : a.tmps.getD 71 undef = .pointer (some (a9.add (k * 18))) := hL.1
                  have e68 : a.tmps.getD 68 undef = .bool false := hL.2.1
                  clear hL
                  refine ⟨false, e68, ?_⟩
                  rw [if_pos rfl]
                  go_simp
                  exact ⟨⟨fun d hd => by injection hd with hd; subst hd; rfl, fun h => by cases h⟩, hS, trivial⟩
              · as_aux_lemma =>
                  intro vals a W hS hL
                  have e72 : a.tmps.getD 72 undef = .pointer (some (a9.add (k * 18))) := hL.1
                  have e68 : a.tmps.getD 68 undef = .bool false := hL.2.1
                  clear hL
                  refine ⟨false, e68, ?_⟩
                  rw [if_pos rfl]
                  have f0 := HF0.out W hS
                  go_simp
                  exact ⟨⟨fun d hd => by injection hd with hd; subst hd; rfl, fun h => by cases h⟩, hS, trivial⟩
              · as_aux_lemma =>
                  intro vals a W hS hL
                  have e73 : a.tmps.getD 73 undef = .int .i64 pk.kind := hL.1
                  have e68 : a.tmps.getD 68 undef = .bool false := hL.2.1
                  clear hL
                  refine ⟨false, e68, ?_⟩
                  rw [if_pos rfl]
                  go_simp
                  exact ⟨⟨fun d hd => by injection hd with hd; subst hd; rfl, fun h => by cases h⟩, hS, trivial⟩
              · as_aux_lemma =>
                  intro vals a W hS hL
                  have e68 : a.tmps.getD 68 undef = .bool false := hL.1
                  have e74 : a.tmps.getD 74 undef = .bool false := hL.2.1
                  clear hL
                  go_simp
                  exact ⟨⟨fun d hd => by injection hd with hd; subst hd; rfl, fun h => by cases h⟩, hS, trivial⟩
              · as_aux_lemma =>
                  intro vals a W hS hL
                  have e75 : a.tmps.getD 75 undef = .bool false := hL.1
                  clear hL
                  go_simp
                  exact ⟨⟨fun d hd => by injection hd with hd; subst hd; rfl, fun h => by cases h⟩, hS, trivial⟩
              · as_aux_lemma =>
                  intro vals a W hS hL
                  have e9 : a.tmps.getD 9 undef = .slice (some a9) L.length c9 := hL.1
                  have e76 : a.tmps.getD 76 undef = .bool false := hL.2.1
                  clear hL
                  refine ⟨false, e76, ?_⟩
                  rw [if_pos rfl]
                  go_simp
                  exact ⟨⟨fun d hd => by injection hd with hd; subst hd; rfl, fun h => by cases h⟩, hS, trivial⟩
              · as_aux_lemma =>
                  intro vals a W hS hL
                  have e10 : a.tmps.getD 10 undef = .int .i64 k := hL.1
                  have e76 : a.tmps.getD 76 undef = .bool false := hL.2.1
                  clear hL
                  refine ⟨false, e76, ?_⟩
                  rw [if_pos rfl]
                  go_simp
                  exact ⟨⟨fun d hd => by injection hd with hd; subst hd; rfl, fun h => by cases h⟩, hS, trivial⟩
              · as_aux_lemma =>
                  intro vals a W hS hL
                  have e77 : a.tmps.getD 77 undef = .slice (some a9) L.length c9 := hL.1
                  have e78 : a.tmps.getD 78 undef = .int .i64 k := hL.2.1
                  have e76 : a.tmps.getD 76 undef = .bool false := hL.2.2.1
                  clear hL
                  refine ⟨false, e76, ?_⟩
                  rw [if_pos rfl]
                  go_simp
                  exact ⟨⟨fun d hd => by injection hd with hd; subst hd; rfl, fun h => by cases h⟩, hS, trivial⟩
              · as_aux_lemma =>
                  intro vals a W hS hL
                  have e79 : a.tmps.getD 79 undef = .pointer (some (a9.add (k * 18))) := hL.1
                  have e76 : a.tmps.getD 76 undef = .bool false := hL.2.1
                  clear hL
                  refine ⟨false, e76, ?_⟩
                  rw [if_pos rfl]
                  go_simp
                  exact ⟨⟨fun d hd => by injection hd with hd; subst hd; rfl, fun h => by cases h⟩, hS, trivial⟩
              · as_aux_lemma =>
                  intro vals a W hS hL
                  have e80 : a.tmps.getD 80 undef = .pointer (some (a9.add (k * 18))) := hL.1
                  have e76 : a.tmps.getD 76 undef = .bool false := hL.2.1
                  clear hL
                  refine ⟨false, e76, ?_⟩
                  rw [if_pos rfl]
                  have f0 := HF0.out W hS
                  go_simp
                  exact ⟨⟨fun d hd => by injection hd with hd; subst hd; rfl, fun h => by cases h⟩, hS, trivial⟩
              · as_aux_lemma =>
                  intro vals a W hS hL
                  have e81 : a.tmps.getD 81 undef = .int .i64 pk.kind := hL.1
                  have e76 : a.tmps.getD 76 undef = .bool false := hL.2.1
                  clear hL
                  refine ⟨false, e76, ?_⟩
                  rw [if_pos rfl]
                  go_simp
                  exact ⟨⟨fun d hd => by injection hd with hd; subst hd; rfl, fun h => by cases h⟩, hS, trivial⟩
              · as_aux_lemma =>
                  intro vals a W hS hL
                  have e76 : a.tmps.getD 76 undef = .bool false := hL.1
                  have e82 : a.tmps.getD 82 undef = .bool false := hL.2.1
                  clear hL
                  go_simp
                  exact ⟨⟨fun d hd => by injection hd with hd; subst hd; rfl, fun h => by cases h⟩, hS, trivial⟩
            · intro a W' vals hd hsz hT hF hv hP hS
              obtain rfl : vals = [] := List.eq_nil_of_length_eq_zero hv
              have hS2 : Below wr.heap.size wr W' := hS
              have e0 : a.tmps.getD 0 undef = .slice A ts.length c := hT 0 (by simp)
              have e1 : a.tmps.getD 1 undef = .int .u8 n := hT 1 (by simp)
              have e2 : a.tmps.getD 2 undef = undef := hT 2 (by simp)
              have e3 : a.tmps.getD 3 undef = undef := hT 3 (by simp)
              have e4 : a.tmps.getD 4 undef = u4 := hT 4 (by simp)
              have e5 : a.tmps.getD 5 undef = .slice A5 ts.length c5 := hT 5 (by simp)
              have e6 : a.tmps.getD 6 undef = .slice (some a6) L.length c6 := hT 6 (by simp)
              have e7 : a.tmps.getD 7 undef = .int .i64 ts.length := hT 7 (by simp)
              have e8 : a.tmps.getD 8 undef = u8 := hT 8 (by simp)
              have e9 : a.tmps.getD 9 undef = .slice (some a9) L.length c9 := hT 9 (by simp)
              have e10 : a.tmps.getD 10 undef = .int .i64 k := hT 10 (by simp)
              have e11 : a.tmps.getD 11 undef = .bool true := hT 11 (by simp)
              have e12 : a.tmps.getD 12 undef = .bool false := hT 12 (by simp)
              have e13 : a.tmps.getD 13 undef = .slice A ts.length c := hT 13 (by simp)
              have e14 : a.tmps.getD 14 undef = .int .i64 ts.length := hT 14 (by simp)
              have e15 : a.tmps.getD 15 undef = .bool false := hT 15 (by simp)
              have e16 : a.tmps.getD 16 undef = .int .i64 ts.length := hT 16 (by simp)
              have e17 : a.tmps.getD 17 undef = .slice A ts.length c := hT 17 (by simp)
              have e18 : a.tmps.getD 18 undef = .int .i64 ts.length := hT 18 (by simp)
              have e19 : a.tmps.getD 19 undef = .bool false := hT 19 (by simp)
              have e20 : a.tmps.getD 20 undef = u20 := hT 20 (by simp)
              have e21 : a.tmps.getD 21 undef = u21 := hT 21 (by simp)
              have e22 : a.tmps.getD 22 undef = u22 := hT 22 (by simp)
              have e23 : a.tmps.getD 23 undef = u23 := hT 23 (by simp)
              have e24 : a.tmps.getD 24 undef = u24 := hT 24 (by simp)
              have e25 : a.tmps.getD 25 undef = u25 := hT 25 (by simp)
              have e26 : a.tmps.getD 26 undef = u26 := hT 26 (by simp)
              have e27 : a.tmps.getD 27 undef = u27 := hT 27 (by simp)
              have e28 : a.tmps.getD 28 undef = u28 := hT 28 (by simp)
              have e29 : a.tmps.getD 29 undef = u29 := hT 29 (by simp)
              have e30 : a.tmps.getD 30 undef = u30 := hT 30 (by simp)
              have e31 : a.tmps.getD 31 undef = u31 := hT 31 (by simp)
              have e32 : a.tmps.getD 32 undef = u32 := hT 32 (by simp)
              have e33 : a.tmps.getD 33 undef = u33 := hT 33 (by simp)
              have e34 : a.tmps.getD 34 undef = u34 := hT 34 (by simp)
              have e35 : a.tmps.getD 35 undef = u35 := hT 35 (by simp)
              have e36 : a.tmps.getD 36 undef = u36 := hT 36 (by simp)
              have e37 : a.tmps.getD 37 undef = u37 := hT 37 (by simp)
              have e38 : a.tmps.getD 38 undef = u38 := hT 38 (by simp)
              have e39 : a.tmps.getD 39 undef = u39 := hT 39 (by simp)
              have e40 : a.tmps.getD 40 undef = u40 := hT 40 (by simp)
              have e41 : a.tmps.getD 41 undef = .int .u8 n := hT 41 (by simp)
              have e42 : a.tmps.getD 42 undef = .int .u8 m := hT 42 (by simp)
              have e43 : a.tmps.getD 43 undef = .int .i64 m := hT 43 (by simp)
              have e44 : a.tmps.getD 44 undef = .slice A5 ts.length c5 := hT 44 (by simp)
              have e45 : a.tmps.getD 45 undef = .agg (ec (callP m) (.slice A5 ts.length c5)).toArray := hT 45 (by simp)
              have e46 : a.tmps.getD 46 undef = .slice (some a9) L.length c9 := hT 46 (by simp)
              have e47 : a.tmps.getD 47 undef = .slice (some a9) L.length c9 := hT 47 (by simp)
              have e48 : a.tmps.getD 48 undef = .int .i64 L.length := hT 48 (by simp)
              have e49 : a.tmps.getD 49 undef = .slice (some a6) L.length c6 := hT 49 (by simp)
              have e50 : a.tmps.getD 50 undef = .int .i64 L.length := hT 50 (by simp)
              have e51 : a.tmps.getD 51 undef = .bool false := hT 51 (by simp)
              have e83 : a.tmps.getD 83 undef = .bool false := hT 83 (by simp)
              clear hT hF hP hS
              rw [act_lit 84 a hd hsz]
              simp only [List.range, List.range.loop, List.map, e0, e1, e2, e3, e4, e5, e6, e7, e8, e9, e10, e11, e12, e13, e14, e15, e16, e17, e18, e19, e20, e21, e22, e23, e24, e25, e26, e27, e28, e29, e30, e31, e32, e33, e34, e35, e36, e37, e38, e39, e40, e41, e42, e43, e44, e45, e46, e47, e48, e49, e50, e51, e83]
              clear e0 e1 e2 e3 e4 e5 e6 e7 e8 e9 e10 e11 e12 e13 e14 e15 e16 e17 e18 e19 e20 e21 e22 e23 e24 e25 e26 e27 e28 e29 e30 e31 e32 e33 e34 e35 e36 e37 e38 e39 e40 e41 e42 e43 e44 e45 e46 e47 e48 e49 e50 e51 e83 hsz hd
              generalize a.tmps.getD 52 undef = y52
              generalize a.tmps.getD 53 undef = y53
              generalize a.tmps.getD 54 undef = y54
              generalize a.tmps.getD 55 undef = y55
              generalize a.tmps.getD 56 undef = y56
              generalize a.tmps.getD 57 undef = y57
              generalize a.tmps.getD 58 undef = y58
              generalize a.tmps.getD 59 undef = y59
              generalize a.tmps.getD 60 undef = y60
              generalize a.tmps.getD 61 undef = y61
              generalize a.tmps.getD 62 undef = y62
              generalize a.tmps.getD 63 undef = y63
              generalize a.tmps.getD 64 undef = y64
              generalize a.tmps.getD 65 undef = y65
              generalize a.tmps.getD 66 undef = y66
              generalize a.tmps.getD 67 undef = y67
              generalize a.tmps.getD 68 undef = y68
              generalize a.tmps.getD 69 undef = y69
              generalize a.tmps.getD 70 undef = y70
              generalize a.tmps.getD 71 undef = y71
              generalize a.tmps.getD 72 undef = y72
              generalize a.tmps.getD 73 undef = y73
              generalize a.tmps.getD 74 undef = y74
              generalize a.tmps.getD 75 undef = y75
              generalize a.tmps.getD 76 undef = y76
              generalize a.tmps.getD 77 undef = y77
              generalize a.tmps.getD 78 undef = y78
              generalize a.tmps.getD 79 undef = y79
              generalize a.tmps.getD 80 undef = y80
              generalize a.tmps.getD 81 undef = y81
              generalize a.tmps.getD 82 undef = y82
              repeat' (first | go_values | go_skip | go_guarded | go_step | go_upon)
              go_roundw
              case rel => exact ⟨k + 1, by go_num, by omega, Lib.hid (HW.out.trans (hS2.mono HW.out.size))⟩
              case measure => simp [intOf]; omega
          · have hkn' : ¬ (k : Int) < (L.length : Int) := by omega
            repeat' (first | go_values | go_skip | go_guarded | go_step | go_upon)
            exact bodyPost_ret (v := .bool true) (by simp [results, Tryd.results5, go_sem]) rfl ⟨rfl, HB.out.trans (HW.out.mono HB.out.size)⟩
end Go.Proofs.YtofbmlfpkcociaaDoor
