/- cashbooklaw6.StrRows by its contract: it returns true. Condition: utf8.ValidString keeps its contract; the texts read as such. -/
import Derived.Test.YtgepipapppdhfaaDoorKnown6
import Derived.Test.YtgepipapppdhfaaDoorBack0
import Derived.Test.YtgepipapppdhfaaDoorBUnits
import Derived.Test.YtgepipapppdhfaaDoorPhase
import Derived.Test.YtgepipapppdhfaaDoorLit
namespace Go.Proofs.YtgepipapppdhfaaDoor
open Go.RowKit Go.Lib

def sv (s : ByteArray) : Value := .string s
/-- The first so many texts, one behind the other. -/
def cat (ss : List ByteArray) (i : Nat) : List UInt8 := (ss.take i).flatMap fun s => pb s.data.toList
theorem cat_succ {ss : List ByteArray} {i : Nat} {s : ByteArray} (h : ss[i]? = some s) : cat ss (i + 1) = cat ss i ++ pb s.data.toList := by
  unfold cat
  have hi := (List.getElem?_eq_some_iff.1 h).1
  rw [← List.take_append_getElem hi, List.flatMap_append, List.flatMap_cons, List.flatMap_nil, List.append_nil]
  rw [List.getElem?_eq_getElem hi] at h
  injection h with h
  rw [h]
theorem cat_split {ss : List ByteArray} {i n : Nat} {s : ByteArray} (h : ss[i]? = some s) (hn : i < n) : ∃ q, cat ss n = cat ss i ++ (pb s.data.toList ++ q) := by
  have e : ss.take n = ss.take (i + 1) ++ (ss.drop (i + 1)).take (n - (i + 1)) := by
    rw [← List.take_add]
    congr 1
    omega
  refine ⟨((ss.drop (i + 1)).take (n - (i + 1))).flatMap fun s => pb s.data.toList, ?_⟩
  rw [← List.append_assoc, ← cat_succ h]
  unfold cat
  rw [e, List.flatMap_append]
theorem back_str (s : ByteArray) : (⟨s.data.toList.toArray⟩ : ByteArray) = s := by cases s; simp

theorem Rd.strAt {w : World} {B n i : Nat} {A : Option Addr} {ss : List ByteArray} (h : Rd w B 1 A n (ss.map sv)) (hi : i < n) : ∃ a s, A = some a ∧ a.block < B ∧ ss[i]? = some s ∧ w.cell? (a.add i) = some (.string s) := by
  obtain ⟨a, u, ha, hb, hu, hc⟩ := h.cell hi
  have hl : i < ss.length := by have := h.len; simp at this; omega
  rw [List.getElem?_map, List.getElem?_eq_getElem hl] at hu
  exact ⟨a, ss[i], ha, hb, List.getElem?_eq_getElem hl, by rw [hc]; simpa [sv] using hu.symm⟩

theorem cell_keep {w1 w2 : World} {p : Addr} {u : Value} {i : Nat} (hc : w1.cell? (p.add i) = some u) (hb : Below w1.heap.size w1 w2) (hp : p.block < w1.heap.size) : w2.cell? (p.add i) = some u := by
  rw [hb.cell (by rw [add_block]; exact hp)]
  exact hc
set_option maxHeartbeats 16000000 in
set_option maxRecDepth 100000 in
theorem rowsLaw_any {w : World} {B n c : Nat} {A : Option Addr} {ss : List ByteArray} (HV : Val w) (h : Rd w B 1 A n (ss.map sv)) (hB : B ≤ w.heap.size) :
    Calls Tryd.prog 4 #[.slice A n c] w fun e w' => e = .returned (.bool true) ∧ Below w.heap.size w w' := by
  have HVV := Lib.hid HV
  clear HV
  go_enter Tryd.func4, Tryd.ntmps4
  go_wp2_with fail
  refine (known_any HVV.out).mono ?_
  rintro e w1 ⟨rfl, hb1⟩
  by_cases hn : 20 < n
  · have hn' : (20 : Int) < (n : Int) := by omega
    go_wp2
    go_ret
    exact ⟨rfl, hb1⟩
  · have hn' : ¬ (20 : Int) < (n : Int) := by omega
    go_wp2
    go_loopw [3, 4] (fun s3 s4 wr => ∃ (i n3 c3 : Nat) (A3 : Option Addr), s4 = .int .i64 i ∧ s3 = .slice A3 n3 c3 ∧ i ≤ n ∧ n3 ≤ c3 ∧ n3 ≤ 2003 * i ∧ Rd wr wr.heap.size 1 A3 n3 ((cat ss i).map bv) ∧ Below w.heap.size w wr ∧ Hid (∀ j s, j < i → ss[j]? = some s → uE s.data.toList = 0 ∧ s.size ≤ 3000)) (fun _ s4 _ => n - (Go.RowKit.intOf s4).toNat)
    case atStart => exact ⟨0, 0, 0, none, rfl, rfl, by omega, by omega, by omega, Rd.nil _ _ _ _, hb1, Lib.hid fun j s hj => by omega⟩
    case round =>
      clear hb1
      obtain ⟨i, n3, c3, A3, rfl, rfl, hi, hnc3, hn3, hr3, hbel, HS⟩ := hrel
      have hsz := hbel.size
      by_cases hin : i < n
      · have hin' : (i : Int) < (n : Int) := by omega
        obtain ⟨a, s, rfl, hab, hsi, hcell⟩ := (h.belowMono hbel hB).strAt hin
        by_cases hs : 3000 < s.size
        · have hs' : (3000 : Int) < (s.size : Int) := by omega
          go_wp2
          go_ret
          exact ⟨rfl, hbel⟩
        · have hs' : ¬ (3000 : Int) < (s.size : Int) := by omega
          have HU := Lib.hid (fun W : World => bUnits_any (w := W) s (by omega))
          have HP := Lib.hid (fun (W : World) (hb : Below w.heap.size w W) (hr : Rd W W.heap.size 1 A3 n3 ((cat ss i).map bv)) => put_any (c := c3) (HVV.out.below hb) hr (Nat.le_refl _) (by omega) s (by omega))
          have HZ := Lib.hid (fun (W : World) (hb : Below w.heap.size w W) => size_any (HVV.out.below hb) s (by omega))
          by_cases hE : uE s.data.toList = 0
          · obtain ⟨z, hz, hz1⟩ := szV_ok hE
            have hpl := pb_len hE
            have hu1 := HU.out
            have hp1 := HP.out
            have hz2 := HZ.out
            rw [hE] at hu1 hp1
            rw [putL_ok hE, ← cat_succ hsi] at hp1
            rw [hz] at hz2 hpl
            have hcl : (cat ss (i + 1)).length = (cat ss i).length + z := by rw [cat_succ hsi, List.length_append]; omega
            clear HU HP HZ
            have HU := Lib.hid hu1
            have HP := Lib.hid hp1
            have HZ := Lib.hid hz2
            have HS2 : Hid (∀ j s, j < i + 1 → ss[j]? = some s → uE s.data.toList = 0 ∧ s.size ≤ 3000) := Lib.hid (fun j s' hj hs'' => by
              by_cases hji : j < i
              · exact HS.out j s' hji hs''
              · obtain rfl : j = i := by omega
                rw [hsi] at hs''
                injection hs'' with hs''
                subst hs''
                exact ⟨hE, by omega⟩)
            clear hu1 hp1 hz2 hz hpl hE HS
            have hl3 : (cat ss i).length = n3 := hr3.blen
            generalize uV s.data.toList = uu at *
            go_wp2_with fail
            refine (HU.out wr).mono ?_
            rintro e w2 ⟨rfl, hb2⟩
            have hr32 := (hr3.belowMono hb2 (Nat.le_refl _)).mono hb2.size
            have hbel2 := hbel.trans (hb2.mono hbel.size)
            have hcell2 := cell_keep hcell hb2 (Nat.lt_of_lt_of_le hab (Nat.le_trans hB hsz))
            clear hr3 hbel hb2 hcell HU
            go_wp2_with fail
            refine (HP.out w2 hbel2 hr32).mono ?_
            rintro e w3 ⟨v3, k3, rfl, ho3, hb3⟩
            have hk3 : k3 = n3 + z := by
              have := ho3.1
              rw [List.length_map, Nat.mul_one] at this
              omega
            subst hk3
            obtain ⟨A5, c5, rfl, hnc5, -, hr5⟩ := own_form ho3
            have hbel3 := hbel2.trans (hb3.mono hbel2.size)
            have hcell3 := cell_keep hcell2 hb3 (Nat.lt_of_lt_of_le hab (Nat.le_trans hB hbel2.size))
            clear hr32 hbel2 hb3 hcell2 HP ho3
            go_wp2_with fail
            refine (HZ.out w3 hbel3).mono ?_
            rintro e w4 ⟨rfl, hb4⟩
            have hr54 := (hr5.belowMono hb4 (Nat.le_refl _)).mono hb4.size
            have hbel4 := hbel3.trans (hb4.mono hbel3.size)
            clear hr5 hbel3 hb4 hcell3 HZ
            go_wp2
            go_roundw
            case rel => exact ⟨i + 1, n3 + z, c5, A5, by go_num, rfl, by omega, hnc5, by omega, hr54, hbel4, HS2⟩
            case measure => simp [Go.RowKit.intOf]; omega
          · clear HP HZ HS
            generalize uV s.data.toList = uu at *
            generalize uE s.data.toList = ee at *
            go_wp2_with fail
            refine (HU.out wr).mono ?_
            rintro e w2 ⟨rfl, hb2⟩
            have hbel2 := hbel.trans (hb2.mono hbel.size)
            clear hcell
            go_wp2
            go_ret
            exact ⟨rfl, hbel2⟩
      · have hin' : ¬ (i : Int) < (n : Int) := by omega
        obtain rfl : i = n := by omega
        have hbel2 := hbel.alloc hbel.size (.cells #[.slice A3 n3 c3, .int .i64 0] 30)
        have hk9 := Bk.new wr 30 #[.slice A3 n3 c3, .int .i64 0]
        have hr9 := hr3.belowMono ((Below.refl wr.heap.size wr).alloc (Nat.le_refl _) (.cells #[.slice A3 n3 c3, .int .i64 0] 30)) (Nat.le_refl _)
        have hl3 : (cat ss i).length = n3 := hr3.blen
        have hg9 : wr.heap.size < (wr.alloc (.cells #[.slice A3 n3 c3, .int .i64 0] 30)).heap.size := by simp
        have hwg0 := hsz
        clear hr3 hbel hsz
        go_wp2
        generalize hW : wr.alloc (.cells #[.slice A3 n3 c3, .int .i64 0] 30) = w9 at *
        clear hW
        generalize wr.heap.size = g9 at *
        go_loopw [10] (fun s10 wx => ∃ (j at_ : Nat), s10 = .int .i64 j ∧ j ≤ i ∧ at_ ≤ n3 ∧ Bk wx g9 30 #[.slice A3 n3 c3, .int .i64 at_] ∧ Rd wx g9 1 A3 n3 ((cat ss i).map bv) ∧ Below w.heap.size w wx ∧ g9 < wx.heap.size ∧ w.heap.size ≤ g9 ∧ Hid (at_ = (cat ss j).length)) (fun s10 _ => i - (Go.RowKit.intOf s10).toNat)
        case atStart => exact ⟨0, 0, rfl, by omega, by omega, hk9, hr9, hbel2, hg9, hwg0, Lib.hid (by simp [cat])⟩
        case round =>
          clear hk9 hr9 hbel2 hg9 hwg0
          obtain ⟨j, at_, rfl, hj, hat, hk9, hr9, hbel, hg9, hwg, HA⟩ := hrel
          by_cases hji : j < i
          · have hji' : (j : Int) < (i : Int) := by omega
            obtain ⟨pa, s, rfl, hab, hsi, hcell⟩ := h.strAt hji
            obtain ⟨hE, hs⟩ := HS.out j s hji hsi
            obtain ⟨z, hz, hz1⟩ := szV_ok hE
            have hpl := pb_len hE
            rw [hz] at hpl
            have HZ := Lib.hid (fun (W : World) (hb : Below w.heap.size w W) => by have := size_any (HVV.out.below hb) s (by omega); rw [hz] at this; exact this)
            obtain ⟨q, hq⟩ := cat_split hsi hji
            have hget := get_any (c := c3) (at_ := at_) (n' := 0) (c' := 0) (A' := none) (cs := []) hr9 (CutS.nil _ _ _) hnc3 (by omega) (by omega) hat (fun x hx => by cases hx)
            rw [show rdS (cat ss i) [] at_ = (s.data.toList, at_ + z, 0) by rw [hq, HA.out, rdS_back _ _ _ hE]; refine Prod.ext rfl (Prod.ext ?_ rfl); simp only; omega] at hget
            simp only [back_str] at hget
            have HG := Lib.hid hget
            have HA2 : Hid (at_ + z = (cat ss (j + 1)).length) := Lib.hid (by rw [cat_succ hsi, List.length_append, ← HA.out]; omega)
            have hat2 : at_ + z ≤ n3 := by
              have h1 := hl3
              rw [hq, List.length_append, List.length_append, ← HA.out] at h1
              omega
            clear hget hz hpl hE hq HA
            unfold cur at HG
            have f0 := hk9.cell 0
            have f1 := hk9.cell 1
            go_wp2_with fail
            refine HG.out.mono ?_
            rintro e w5 ⟨rfl, hb5⟩
            have hbel5 := hbel.trans (hb5.mono hbel.size)
            have hk95 := (hk9.below hb5 hg9).alloc (.cells #[.slice A3 n3 c3, .int .i64 ((at_ + z : Nat) : Int)] 30)
            have hr95 := (hr9.belowMono hb5 (Nat.le_of_lt hg9)).belowMono ((Below.refl w5.heap.size w5).alloc (Nat.le_refl _) (.cells #[.slice A3 n3 c3, .int .i64 ((at_ + z : Nat) : Int)] 30)) (Nat.le_of_lt (Nat.lt_of_lt_of_le hg9 hb5.size))
            have hbel6 := hbel5.alloc hbel5.size (.cells #[.slice A3 n3 c3, .int .i64 ((at_ + z : Nat) : Int)] 30)
            have hk12 := Bk.new w5 30 #[.slice A3 n3 c3, .int .i64 ((at_ + z : Nat) : Int)]
            have hg96 : g9 < w5.heap.size := Nat.lt_of_lt_of_le hg9 hb5.size
            have hg12 : w5.heap.size < (w5.alloc (.cells #[.slice A3 n3 c3, .int .i64 ((at_ + z : Nat) : Int)] 30)).heap.size := by simp
            obtain ⟨a2, ha2⟩ : ∃ a2 : Nat, at_ + z = a2 := ⟨_, rfl⟩
            have ha2' : (at_ : Int) + (z : Int) = (a2 : Int) := by omega
            rw [ha2] at HA2 hat2 hk95 hr95 hbel6 hk12 hg12
            rw [ha2]
            clear hbel hb5 hk9 hr9 hg9 f0 f1 HG hbel5
            go_upto_region 23 with fail
            generalize hW : w5.alloc (.cells #[.slice A3 n3 c3, .int .i64 (a2 : Int)] 30) = w6 at *
            clear hW
            generalize w5.heap.size = g12 at *
            have hg9W : g9 < w6.heap.size := Nat.lt_trans hg96 hg12
            have hab6 : pa.block < w6.heap.size := Nat.lt_of_lt_of_le hab (Nat.le_trans hB hbel6.size)
            have hcell6 : w6.cell? (pa.add j) = some (.string s) := by rw [hbel6.cell (by rw [add_block]; omega)]; exact hcell
            have c1 := hk95.cell 1
            have d1 := hk12.cell 1
            refine wp_region_phases (S := (fun (_ : List Value) W => Below w6.heap.size w6 W)) (E := (fun _ _ => True)) [] [(1, Is (undef)), (2, Is (u2)), (3, Is (.slice A3 n3 c3)), (4, Is (.int .i64 (i : Int))), (5, Is (u5)), (6, Is (u6)), (7, Is (u7)), (8, Is (u8)), (14, Is (.bool true)), (15, Is (.bool false)), (16, Is (.slice (some pa) i c)), (17, Is (.int .i64 (i : Int))), (18, Is (.bool (decide (20 < (i : Int))))), (19, Is (.int .i64 (i : Int))), (20, Is (.slice (some pa) i c)), (21, Is (.int .i64 (i : Int))), (22, Is (.bool false)), (66, Is (.slice A3 n3 c3)), (67, Is (.agg #[.slice A3 n3 c3, .int .i64 0])), (104, Is (undef)), (105, Is (undef)), (106, Is (undef)), (0, Is (.slice (some pa) i c)), (9, Is (.pointer (some ⟨g9, 0, none⟩))), (10, Is (.int .i64 (j : Int))), (11, Is (.string s)), (12, Is (.pointer (some ⟨g12, 0, none⟩))), (13, Is (.int .i64 0)), (23, Is (u23)), (24, Is (u24)), (25, Is (u25)), (26, Is (u26)), (27, Is (u27)), (28, Is (u28)), (29, Is (u29)), (30, Is (u30)), (31, Is (u31)), (32, Is (u32)), (33, Is (u33)), (34, Is (u34)), (35, Is (u35)), (36, Is (u36)), (37, Is (u37)), (38, Is (u38)), (39, Is (u39)), (40, Is (u40)), (41, Is (u41)), (42, Is (u42)), (43, Is (u43)), (44, Is (u44)), (45, Is (u45)), (46, Is (u46)), (47, Is (u47)), (48, Is (u48)), (49, Is (u49)), (50, Is (u50)), (51, Is (u51)), (52, Is (u52)), (53, Is (u53)), (54, Is (u54)), (55, Is (u55)), (56, Is (u56)), (57, Is (u57)), (58, Is (u58)), (59, Is (u59)), (60, Is (u60)), (61, Is (u61)), (62, Is (u62)), (63, Is (u63)), (64, Is (u64)), (65, Is (u65))] [(80, Is (.int .i64 0)), (81, Is (.bool false)), (82, Is (.bool false)), (83, Is (.string s)), (84, Is (.slice (some pa) i c)), (85, Is (.int .i64 (j : Int))), (86, Is (.pointer (some (pa.add j)))), (87, Is (.string s)), (88, Is (.bool false)), (89, Is (.bool false)), (90, Is (.bool false)), (91, Is (.pointer (some ⟨g12, 1, none⟩))), (92, Is (.int .i64 (a2 : Int))), (93, Is (.pointer (some ⟨g9, 1, none⟩))), (94, Is (.int .i64 (at_ : Int))), (95, Is (.slice (some pa) i c)), (96, Is (.int .i64 (j : Int))), (97, Is (.pointer (some (pa.add j)))), (98, Is (.string s)), (99, Is (.int .i64 (z : Int))), (100, Is (.int .i64 (a2 : Int))), (101, Is (.bool false)), (102, Is (.bool false))]
              [.op [13] none, .op [80] none, .op [81] none, .op [11, 82] (some (82, false)), .op [0, 82] (some (82, false)), .op [10, 82] (some (82, false)), .op [84, 85, 82] (some (82, false)), .op [86, 82] (some (82, false)), .op [83, 87, 82] (some (82, false)), .op [82, 88] none, .op [89] none, .op [12, 90] (some (90, false)), .op [91, 90] (some (90, false)), .op [9, 90] (some (90, false)), .op [93, 90] (some (90, false)), .op [0, 90] (some (90, false)), .op [10, 90] (some (90, false)), .op [95, 96, 90] (some (90, false)), .op [97, 90] (some (90, false)), .op [98, 90] (some (90, false)), .op [94, 99, 90] (some (90, false)), .op [92, 100, 90] (some (90, false)), .op [90, 101] none] (by as_aux_lemma => kernel_rfl) ?_ ?_ ?_ ?_ ?_ ⟨stable_is _ _, stable_is _ _, stable_is _ _, stable_is _ _, stable_is _ _, stable_is _ _, stable_is _ _, stable_is _ _, stable_is _ _, stable_is _ _, stable_is _ _, stable_is _ _, stable_is _ _, stable_is _ _, stable_is _ _, stable_is _ _, stable_is _ _, stable_is _ _, stable_is _ _, stable_is _ _, stable_is _ _, stable_is _ _, stable_is _ _, stable_is _ _, stable_is _ _, stable_is _ _, stable_is _ _, stable_is _ _, stable_is _ _, stable_is _ _, stable_is _ _, stable_is _ _, stable_is _ _, stable_is _ _, stable_is _ _, stable_is _ _, stable_is _ _, stable_is _ _, stable_is _ _, stable_is _ _, stable_is _ _, stable_is _ _, stable_is _ _, stable_is _ _, stable_is _ _, stable_is _ _, stable_is _ _, stable_is _ _, stable_is _ _, stable_is _ _, stable_is _ _, stable_is _ _, stable_is _ _, stable_is _ _, stable_is _ _, stable_is _ _, stable_is _ _, stable_is _ _, stable_is _ _, stable_is _ _, stable_is _ _, stable_is _ _, stable_is _ _, stable_is _ _, stable_is _ _, stable_is _ _, stable_is _ _, stable_is _ _, stable_is _ _, stable_is _ _, stable_is _ _, stable_is _ _, stable_is _ _, stable_is _ _, stable_is _ _, stable_is _ _, stable_is _ _, stable_is _ _, stable_is _ _, stable_is _ _, stable_is _ _, stable_is _ _, stable_is _ _, stable_is _ _, stable_is _ _, stable_is _ _, stable_is _ _, stable_is _ _, stable_is _ _, stable_is _ _, stable_is _ _, stable_is _ _, stable_is _ _, stable_is _ _, trivial⟩ ?_ (Below.refl _ _).drew ?_ ?_
            · as_aux_lemma => kernel_rfl
            · as_aux_lemma => kernel_rfl
            · as_aux_lemma => kernel_rfl
            · as_aux_lemma => kernel_rfl
            · as_aux_lemma => kernel_rfl
            · exact ⟨rfl, rfl, rfl, rfl, rfl, rfl, rfl, rfl, rfl, rfl, rfl, rfl, rfl, rfl, rfl, rfl, rfl, rfl, rfl, rfl, rfl, rfl, rfl, rfl, rfl, rfl, rfl, rfl, rfl, rfl, rfl, rfl, rfl, rfl, rfl, rfl, rfl, rfl, rfl, rfl, rfl, rfl, rfl, rfl, rfl, rfl, rfl, rfl, rfl, rfl, rfl, rfl, rfl, rfl, rfl, rfl, rfl, rfl, rfl, rfl, rfl, rfl, rfl, rfl, rfl, rfl, rfl, rfl, rfl, rfl, rfl, trivial⟩
            · refine ⟨?_, ?_, ?_, ?_, ?_, ?_, ?_, ?_, ?_, ?_, ?_, ?_, ?_, ?_, ?_, ?_, ?_, ?_, ?_, ?_, ?_, ?_, ?_, trivial⟩
              · as_aux_lemma =>
                  intro vals a W hS hL
                  have e13 : a.tmps.getD 13 undef = .int .i64 0 := hL.1
                  clear hL
                  go_simp
                  exact ⟨⟨fun d hd => by injection hd with hd; subst hd; rfl, fun h => by cases h⟩, hS, trivial⟩
              · as_aux_lemma =>
                  intro vals a W hS hL
                  have e80 : a.tmps.getD 80 undef = .int .i64 0 := hL.1
                  clear hL
                  go_simp
                  exact ⟨⟨fun d hd => by injection hd with hd; subst hd; rfl, fun h => by cases h⟩, hS, trivial⟩
              · as_aux_lemma =>
                  intro vals a W hS hL
                  have e81 : a.tmps.getD 81 undef = .bool false := hL.1
                  clear hL
                  go_simp
                  exact ⟨⟨fun d hd => by injection hd with hd; subst hd; rfl, fun h => by cases h⟩, hS, trivial⟩
              · as_aux_lemma =>
                  intro vals a W hS hL
                  have e11 : a.tmps.getD 11 undef = .string s := hL.1
                  have e82 : a.tmps.getD 82 undef = .bool false := hL.2.1
                  clear hL
                  refine ⟨false, e82, ?_⟩
                  rw [if_pos rfl]
                  go_simp
                  exact ⟨⟨fun d hd => by injection hd with hd; subst hd; rfl, fun h => by cases h⟩, hS, trivial⟩
              · as_aux_lemma =>
                  intro vals a W hS hL
                  have e0 : a.tmps.getD 0 undef = .slice (some pa) i c := hL.1
                  have e82 : a.tmps.getD 82 undef = .bool false := hL.2.1
                  clear hL
                  refine ⟨false, e82, ?_⟩
                  rw [if_pos rfl]
                  go_simp
                  exact ⟨⟨fun d hd => by injection hd with hd; subst hd; rfl, fun h => by cases h⟩, hS, trivial⟩
              · as_aux_lemma =>
                  intro vals a W hS hL
                  have e10 : a.tmps.getD 10 undef = .int .i64 (j : Int) := hL.1
                  have e82 : a.tmps.getD 82 undef = .bool false := hL.2.1
                  clear hL
                  refine ⟨false, e82, ?_⟩
                  rw [if_pos rfl]
                  go_simp
                  exact ⟨⟨fun d hd => by injection hd with hd; subst hd; rfl, fun h => by cases h⟩, hS, trivial⟩
              · as_aux_lemma =>
                  intro vals a W hS hL
                  have e84 : a.tmps.getD 84 undef = .slice (some pa) i c := hL.1
                  have e85 : a.tmps.getD 85 undef = .int .i64 (j : Int) := hL.2.1
                  have e82 : a.tmps.getD 82 undef = .bool false := hL.2.2.1
                  clear hL
                  refine ⟨false, e82, ?_⟩
                  rw [if_pos rfl]
                  go_simp
                  exact ⟨⟨fun d hd => by injection hd with hd; subst hd; rfl, fun h => by cases h⟩, hS, trivial⟩
              · as_aux_lemma =>
                  intro vals a W hS hL
                  have e86 : a.tmps.getD 86 undef = .pointer (some (pa.add j)) := hL.1
                  have e82 : a.tmps.getD 82 undef = .bool false := hL.2.1
                  clear hL
                  refine ⟨false, e82, ?_⟩
                  rw [if_pos rfl]
                  have hb : Below w6.heap.size w6 W := hS
                  have f1 := cell_keep hcell6 hb hab6
                  go_simp
                  exact ⟨⟨fun d hd => by injection hd with hd; subst hd; rfl, fun h => by cases h⟩, hS, trivial⟩
              · as_aux_lemma =>
                  intro vals a W hS hL
                  have e83 : a.tmps.getD 83 undef = .string s := hL.1
                  have e87 : a.tmps.getD 87 undef = .string s := hL.2.1
                  have e82 : a.tmps.getD 82 undef = .bool false := hL.2.2.1
                  clear hL
                  refine ⟨false, e82, ?_⟩
                  rw [if_pos rfl]
                  go_simp
                  exact ⟨⟨fun d hd => by injection hd with hd; subst hd; rfl, fun h => by cases h⟩, hS, trivial⟩
              · as_aux_lemma =>
                  intro vals a W hS hL
                  have e82 : a.tmps.getD 82 undef = .bool false := hL.1
                  have e88 : a.tmps.getD 88 undef = .bool false := hL.2.1
                  clear hL
                  go_simp
                  exact ⟨⟨fun d hd => by injection hd with hd; subst hd; rfl, fun h => by cases h⟩, hS, trivial⟩
              · as_aux_lemma =>
                  intro vals a W hS hL
                  have e89 : a.tmps.getD 89 undef = .bool false := hL.1
                  clear hL
                  go_simp
                  exact ⟨⟨fun d hd => by injection hd with hd; subst hd; rfl, fun h => by cases h⟩, hS, trivial⟩
              · as_aux_lemma =>
                  intro vals a W hS hL
                  have e12 : a.tmps.getD 12 undef = .pointer (some ⟨g12, 0, none⟩) := hL.1
                  have e90 : a.tmps.getD 90 undef = .bool false := hL.2.1
                  clear hL
                  refine ⟨false, e90, ?_⟩
                  rw [if_pos rfl]
                  go_simp
                  exact ⟨⟨fun d hd => by injection hd with hd; subst hd; rfl, fun h => by cases h⟩, hS, trivial⟩
              · as_aux_lemma =>
                  intro vals a W hS hL
                  have e91 : a.tmps.getD 91 undef = .pointer (some ⟨g12, 1, none⟩) := hL.1
                  have e90 : a.tmps.getD 90 undef = .bool false := hL.2.1
                  clear hL
                  refine ⟨false, e90, ?_⟩
                  rw [if_pos rfl]
                  have hb : Below w6.heap.size w6 W := hS
                  have f1 := (hb.cell (p := ⟨g12, 1, none⟩) (by simp; omega)).trans d1
                  go_simp
                  exact ⟨⟨fun d hd => by injection hd with hd; subst hd; rfl, fun h => by cases h⟩, hS, trivial⟩
              · as_aux_lemma =>
                  intro vals a W hS hL
                  have e9 : a.tmps.getD 9 undef = .pointer (some ⟨g9, 0, none⟩) := hL.1
                  have e90 : a.tmps.getD 90 undef = .bool false := hL.2.1
                  clear hL
                  refine ⟨false, e90, ?_⟩
                  rw [if_pos rfl]
                  go_simp
                  exact ⟨⟨fun d hd => by injection hd with hd; subst hd; rfl, fun h => by cases h⟩, hS, trivial⟩
              · as_aux_lemma =>
                  intro vals a W hS hL
                  have e93 : a.tmps.getD 93 undef = .pointer (some ⟨g9, 1, none⟩) := hL.1
                  have e90 : a.tmps.getD 90 undef = .bool false := hL.2.1
                  clear hL
                  refine ⟨false, e90, ?_⟩
                  rw [if_pos rfl]
                  have hb : Below w6.heap.size w6 W := hS
                  have f1 := (hb.cell (p := ⟨g9, 1, none⟩) (by simp; omega)).trans c1
                  go_simp
                  exact ⟨⟨fun d hd => by injection hd with hd; subst hd; rfl, fun h => by cases h⟩, hS, trivial⟩
              · as_aux_lemma =>
                  intro vals a W hS hL
                  have e0 : a.tmps.getD 0 undef = .slice (some pa) i c := hL.1
                  have e90 : a.tmps.getD 90 undef = .bool false := hL.2.1
                  clear hL
                  refine ⟨false, e90, ?_⟩
                  rw [if_pos rfl]
                  go_simp
                  exact ⟨⟨fun d hd => by injection hd with hd; subst hd; rfl, fun h => by cases h⟩, hS, trivial⟩
              · as_aux_lemma =>
                  intro vals a W hS hL
                  have e10 : a.tmps.getD 10 undef = .int .i64 (j : Int) := hL.1
                  have e90 : a.tmps.getD 90 undef = .bool false := hL.2.1
                  clear hL
                  refine ⟨false, e90, ?_⟩
                  rw [if_pos rfl]
                  go_simp
                  exact ⟨⟨fun d hd => by injection hd with hd; subst hd; rfl, fun h => by cases h⟩, hS, trivial⟩
              · as_aux_lemma =>
                  intro vals a W hS hL
                  have e95 : a.tmps.getD 95 undef = .slice (some pa) i c := hL.1
                  have e96 : a.tmps.getD 96 undef = .int .i64 (j : Int) := hL.2.1
                  have e90 : a.tmps.getD 90 undef = .bool false := hL.2.2.1
                  clear hL
                  refine ⟨false, e90, ?_⟩
                  rw [if_pos rfl]
                  go_simp
                  exact ⟨⟨fun d hd => by injection hd with hd; subst hd; rfl, fun h => by cases h⟩, hS, trivial⟩
              · as_aux_lemma =>
                  intro vals a W hS hL
                  have e97 : a.tmps.getD 97 undef = .pointer (some (pa.add j)) := hL.1
                  have e90 : a.tmps.getD 90 undef = .bool false := hL.2.1
                  clear hL
                  refine ⟨false, e90, ?_⟩
                  rw [if_pos rfl]
                  have hb : Below w6.heap.size w6 W := hS
                  have f1 := cell_keep hcell6 hb hab6
                  go_simp
                  exact ⟨⟨fun d hd => by injection hd with hd; subst hd; rfl, fun h => by cases h⟩, hS, trivial⟩
              · as_aux_lemma =>
                  intro vals a W hS hL
                  have e98 : a.tmps.getD 98 undef = .string s := hL.1
                  have e90 : a.tmps.getD 90 undef = .bool false := hL.2.1
                  clear hL
                  refine ⟨false, e90, ?_⟩
                  rw [if_pos rfl]
                  go_simp
                  have hb : Below w6.heap.size w6 W := hS
                  refine (HZ.out _ (hbel6.trans (hb.mono hbel6.size))).mono ?_
                  rintro e W' ⟨rfl, hb'⟩
                  exact ⟨_, rfl, ⟨fun d hd => by injection hd with hd; subst hd; rfl, fun h => by cases h⟩, hb.trans (hb'.mono hb.size), trivial⟩
              · as_aux_lemma =>
                  intro vals a W hS hL
                  have e94 : a.tmps.getD 94 undef = .int .i64 (at_ : Int) := hL.1
                  have e99 : a.tmps.getD 99 undef = .int .i64 (z : Int) := hL.2.1
                  have e90 : a.tmps.getD 90 undef = .bool false := hL.2.2.1
                  clear hL
                  refine ⟨false, e90, ?_⟩
                  rw [if_pos rfl]
                  have hs1 := ha2'
                  have hw1 : IntKind.i64.wrap (a2 : Int) = (a2 : Int) := IntWalk.i64_in _ (by omega)
                  go_simp
                  exact ⟨⟨fun d hd => by injection hd with hd; subst hd; rfl, fun h => by cases h⟩, hS, trivial⟩
              · as_aux_lemma =>
                  intro vals a W hS hL
                  have e92 : a.tmps.getD 92 undef = .int .i64 (a2 : Int) := hL.1
                  have e100 : a.tmps.getD 100 undef = .int .i64 (a2 : Int) := hL.2.1
                  have e90 : a.tmps.getD 90 undef = .bool false := hL.2.2.1
                  clear hL
                  refine ⟨false, e90, ?_⟩
                  rw [if_pos rfl]
                  go_simp
                  exact ⟨⟨fun d hd => by injection hd with hd; subst hd; rfl, fun h => by cases h⟩, hS, trivial⟩
              · as_aux_lemma =>
                  intro vals a W hS hL
                  have e90 : a.tmps.getD 90 undef = .bool false := hL.1
                  have e101 : a.tmps.getD 101 undef = .bool false := hL.2.1
                  clear hL
                  go_simp
                  exact ⟨⟨fun d hd => by injection hd with hd; subst hd; rfl, fun h => by cases h⟩, hS, trivial⟩
            · intro a' W' vals hd hsz hT hF hv hP hS
              obtain rfl : vals = [] := List.eq_nil_of_length_eq_zero hv
              have hbx : Below w6.heap.size w6 W' := hS
              clear hS hP hF
              have e0 : a'.tmps.getD 0 undef = .slice (some pa) i c := hT 0 (by simp)
              have e1 : a'.tmps.getD 1 undef = undef := hT 1 (by simp)
              have e2 : a'.tmps.getD 2 undef = u2 := hT 2 (by simp)
              have e3 : a'.tmps.getD 3 undef = .slice A3 n3 c3 := hT 3 (by simp)
              have e4 : a'.tmps.getD 4 undef = .int .i64 (i : Int) := hT 4 (by simp)
              have e5 : a'.tmps.getD 5 undef = u5 := hT 5 (by simp)
              have e6 : a'.tmps.getD 6 undef = u6 := hT 6 (by simp)
              have e7 : a'.tmps.getD 7 undef = u7 := hT 7 (by simp)
              have e8 : a'.tmps.getD 8 undef = u8 := hT 8 (by simp)
              have e9 : a'.tmps.getD 9 undef = .pointer (some ⟨g9, 0, none⟩) := hT 9 (by simp)
              have e10 : a'.tmps.getD 10 undef = .int .i64 (j : Int) := hT 10 (by simp)
              have e11 : a'.tmps.getD 11 undef = .string s := hT 11 (by simp)
              have e12 : a'.tmps.getD 12 undef = .pointer (some ⟨g12, 0, none⟩) := hT 12 (by simp)
              have e13 : a'.tmps.getD 13 undef = .int .i64 0 := hT 13 (by simp)
              have e14 : a'.tmps.getD 14 undef = .bool true := hT 14 (by simp)
              have e15 : a'.tmps.getD 15 undef = .bool false := hT 15 (by simp)
              have e16 : a'.tmps.getD 16 undef = .slice (some pa) i c := hT 16 (by simp)
              have e17 : a'.tmps.getD 17 undef = .int .i64 (i : Int) := hT 17 (by simp)
              have e18 : a'.tmps.getD 18 undef = .bool (decide (20 < (i : Int))) := hT 18 (by simp)
              have e19 : a'.tmps.getD 19 undef = .int .i64 (i : Int) := hT 19 (by simp)
              have e20 : a'.tmps.getD 20 undef = .slice (some pa) i c := hT 20 (by simp)
              have e21 : a'.tmps.getD 21 undef = .int .i64 (i : Int) := hT 21 (by simp)
              have e22 : a'.tmps.getD 22 undef = .bool false := hT 22 (by simp)
              have e23 : a'.tmps.getD 23 undef = u23 := hT 23 (by simp)
              have e24 : a'.tmps.getD 24 undef = u24 := hT 24 (by simp)
              have e25 : a'.tmps.getD 25 undef = u25 := hT 25 (by simp)
              have e26 : a'.tmps.getD 26 undef = u26 := hT 26 (by simp)
              have e27 : a'.tmps.getD 27 undef = u27 := hT 27 (by simp)
              have e28 : a'.tmps.getD 28 undef = u28 := hT 28 (by simp)
              have e29 : a'.tmps.getD 29 undef = u29 := hT 29 (by simp)
              have e30 : a'.tmps.getD 30 undef = u30 := hT 30 (by simp)
              have e31 : a'.tmps.getD 31 undef = u31 := hT 31 (by simp)
              have e32 : a'.tmps.getD 32 undef = u32 := hT 32 (by simp)
              have e33 : a'.tmps.getD 33 undef = u33 := hT 33 (by simp)
              have e34 : a'.tmps.getD 34 undef = u34 := hT 34 (by simp)
              have e35 : a'.tmps.getD 35 undef = u35 := hT 35 (by simp)
              have e36 : a'.tmps.getD 36 undef = u36 := hT 36 (by simp)
              have e37 : a'.tmps.getD 37 undef = u37 := hT 37 (by simp)
              have e38 : a'.tmps.getD 38 undef = u38 := hT 38 (by simp)
              have e39 : a'.tmps.getD 39 undef = u39 := hT 39 (by simp)
              have e40 : a'.tmps.getD 40 undef = u40 := hT 40 (by simp)
              have e41 : a'.tmps.getD 41 undef = u41 := hT 41 (by simp)
              have e42 : a'.tmps.getD 42 undef = u42 := hT 42 (by simp)
              have e43 : a'.tmps.getD 43 undef = u43 := hT 43 (by simp)
              have e44 : a'.tmps.getD 44 undef = u44 := hT 44 (by simp)
              have e45 : a'.tmps.getD 45 undef = u45 := hT 45 (by simp)
              have e46 : a'.tmps.getD 46 undef = u46 := hT 46 (by simp)
              have e47 : a'.tmps.getD 47 undef = u47 := hT 47 (by simp)
              have e48 : a'.tmps.getD 48 undef = u48 := hT 48 (by simp)
              have e49 : a'.tmps.getD 49 undef = u49 := hT 49 (by simp)
              have e50 : a'.tmps.getD 50 undef = u50 := hT 50 (by simp)
              have e51 : a'.tmps.getD 51 undef = u51 := hT 51 (by simp)
              have e52 : a'.tmps.getD 52 undef = u52 := hT 52 (by simp)
              have e53 : a'.tmps.getD 53 undef = u53 := hT 53 (by simp)
              have e54 : a'.tmps.getD 54 undef = u54 := hT 54 (by simp)
              have e55 : a'.tmps.getD 55 undef = u55 := hT 55 (by simp)
              have e56 : a'.tmps.getD 56 undef = u56 := hT 56 (by simp)
              have e57 : a'.tmps.getD 57 undef = u57 := hT 57 (by simp)
              have e58 : a'.tmps.getD 58 undef = u58 := hT 58 (by simp)
              have e59 : a'.tmps.getD 59 undef = u59 := hT 59 (by simp)
              have e60 : a'.tmps.getD 60 undef = u60 := hT 60 (by simp)
              have e61 : a'.tmps.getD 61 undef = u61 := hT 61 (by simp)
              have e62 : a'.tmps.getD 62 undef = u62 := hT 62 (by simp)
              have e63 : a'.tmps.getD 63 undef = u63 := hT 63 (by simp)
              have e64 : a'.tmps.getD 64 undef = u64 := hT 64 (by simp)
              have e65 : a'.tmps.getD 65 undef = u65 := hT 65 (by simp)
              have e66 : a'.tmps.getD 66 undef = .slice A3 n3 c3 := hT 66 (by simp)
              have e67 : a'.tmps.getD 67 undef = .agg #[.slice A3 n3 c3, .int .i64 0] := hT 67 (by simp)
              have e104 : a'.tmps.getD 104 undef = undef := hT 104 (by simp)
              have e105 : a'.tmps.getD 105 undef = undef := hT 105 (by simp)
              have e106 : a'.tmps.getD 106 undef = undef := hT 106 (by simp)
              have e102 : a'.tmps.getD 102 undef = .bool false := hT 102 (by simp)
              clear hT
              rw [act_lit 107 a' hd hsz]
              simp only [List.range, List.range.loop, List.map, e0, e1, e2, e3, e4, e5, e6, e7, e8, e9, e10, e11, e12, e13, e14, e15, e16, e17, e18, e19, e20, e21, e22, e23, e24, e25, e26, e27, e28, e29, e30, e31, e32, e33, e34, e35, e36, e37, e38, e39, e40, e41, e42, e43, e44, e45, e46, e47, e48, e49, e50, e51, e52, e53, e54, e55, e56, e57, e58, e59, e60, e61, e62, e63, e64, e65, e66, e67, e104, e105, e106, e102]
              clear e0 e1 e2 e3 e4 e5 e6 e7 e8 e9 e10 e11 e12 e13 e14 e15 e16 e17 e18 e19 e20 e21 e22 e23 e24 e25 e26 e27 e28 e29 e30 e31 e32 e33 e34 e35 e36 e37 e38 e39 e40 e41 e42 e43 e44 e45 e46 e47 e48 e49 e50 e51 e52 e53 e54 e55 e56 e57 e58 e59 e60 e61 e62 e63 e64 e65 e66 e67 e104 e105 e106 e102
              have kk9 := hk95.below hbx hg9W
              have kk12 := hk12.below hbx hg12
              have f0 := kk12.cell 0
              have f1 := kk12.cell 1
              have q0 := kk9.cell 0
              have q1 := kk9.cell 1
              have z0 := kk9.frozen 0
              have z1 := kk9.frozen 1
              have k9n : Bk ((W'.setCell ⟨g9, 0, none⟩ (.slice A3 n3 c3)).setCell ⟨g9, 1, none⟩ (.int .i64 (a2 : Int))) g9 30 #[.slice A3 n3 c3, .int .i64 (a2 : Int)] := by
                have := (kk9.set_ 0 (.slice A3 n3 c3)).set_ 1 (.int .i64 (a2 : Int))
                simpa using this
              have hrn : Rd ((W'.setCell ⟨g9, 0, none⟩ (.slice A3 n3 c3)).setCell ⟨g9, 1, none⟩ (.int .i64 (a2 : Int))) g9 1 A3 n3 ((cat ss i).map bv) := (hr95.belowMono hbx (Nat.le_of_lt hg9W)).belowMono (((Below.refl g9 W').setCell (p := ⟨g9, 0, none⟩) (Nat.le_refl _) _).setCell (p := ⟨g9, 1, none⟩) (Nat.le_refl _) _) (Nat.le_refl _)
              have hbn := ((hbel6.trans (hbx.mono hbel6.size)).setCell (p := ⟨g9, 0, none⟩) hwg (.slice A3 n3 c3)).setCell (p := ⟨g9, 1, none⟩) hwg (.int .i64 (a2 : Int))
              have hgn : g9 < ((W'.setCell ⟨g9, 0, none⟩ (.slice A3 n3 c3)).setCell ⟨g9, 1, none⟩ (.int .i64 (a2 : Int))).heap.size := by have := hbx.size; simp; omega
              clear kk9 kk12 hk95 hk12 hr95 hbel6 hbx
              go_wp2
              go_roundw
              case rel => exact ⟨j + 1, a2, by go_num, by omega, hat2, k9n, hrn, hbn, hgn, hwg, HA2⟩
              case measure => simp [Go.RowKit.intOf]; omega
          · have hji' : ¬ (j : Int) < (i : Int) := by omega
            obtain rfl : j = i := by omega
            have ha3 : at_ = n3 := by rw [HA.out]; exact hl3
            subst ha3
            have f0 := hk9.cell 0
            have f1 := hk9.cell 1
            go_wp2_with fail
            refine (end_any (n := at_) (c := c3) (at_ := (at_ : Int)) (A := A3) (by omega)).mono ?_
            rintro e w5 ⟨rfl, hb5⟩
            rw [show endE (at_ : Int) at_ = 0 by unfold endE stB; rw [if_neg (by rw [decide_eq_true (by omega)]; decide), if_neg (by omega)]]
            have hbF := hbel.trans (hb5.mono hbel.size)
            clear f0 f1
            go_wp2
            go_ret
            exact ⟨rfl, hbF⟩
end Go.Proofs.YtgepipapppdhfaaDoor
