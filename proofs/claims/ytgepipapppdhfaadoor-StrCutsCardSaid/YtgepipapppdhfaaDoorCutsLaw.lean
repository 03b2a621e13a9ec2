/- cashbooklaw6.StrCuts by its contract: it returns true. Condition: utf8.ValidString keeps its contract; the bytes read as such. -/
import Derived.Test.YtgepipapppdhfaaDoorIsAt
namespace Go.Proofs.YtgepipapppdhfaaDoor
open Go.RowKit Go.Lib

theorem pre_first (us : List Int) (n w : Nat) : Pre us w (b2 (n : Int) ++ [UInt8.ofNat w]) [] 0 w := by
  have hb : (b2 (n : Int) ++ [UInt8.ofNat w]).length = 3 := by simp [b2]
  intro q ds m hds
  rw [hb]
  simp

set_option maxHeartbeats 32000000 in
set_option maxRecDepth 100000 in
theorem cutsLaw_any {w : World} {B1 n1 c1 B2 n2 c2 : Nat} {A1 A2 : Option Addr} {zs ws : List UInt8} (HV : Val w) (s : ByteArray) (h1 : Rd w B1 1 A1 n1 (zs.map bv)) (hB1 : B1 ≤ w.heap.size) (h2 : Rd w B2 1 A2 n2 (ws.map bv)) (hB2 : B2 ≤ w.heap.size) (hn2 : n2 ≤ 9223372036854775807) :
    Calls Tryd.prog 3 #[.string s, .slice A1 n1 c1, .slice A2 n2 c2] w fun e w' => e = .returned (.bool true) ∧ Below w.heap.size w w' := by
  have HK := Lib.hid (known_any HV)
  clear HV
  by_cases hs : 300 < s.size
  · have hs' : (300 : Int) < (s.size : Int) := by omega
    go_enter Tryd.func3, Tryd.ntmps3
    go_wp2_with fail
    refine HK.out.mono ?_
    rintro e w1 ⟨rfl, hb1⟩
    go_wp2
    go_ret
    exact ⟨rfl, hb1⟩
  have hs' : ¬ (300 : Int) < (s.size : Int) := by omega
  by_cases hn1 : 20 < n1
  · have hn1' : (20 : Int) < (n1 : Int) := by omega
    go_enter Tryd.func3, Tryd.ntmps3
    go_wp2_with fail
    refine HK.out.mono ?_
    rintro e w1 ⟨rfl, hb1⟩
    go_wp2
    go_ret
    exact ⟨rfl, hb1⟩
  have hn1' : ¬ (20 : Int) < (n1 : Int) := by omega
  by_cases hn20 : n2 = 0
  · subst hn20
    go_enter Tryd.func3, Tryd.ntmps3
    go_wp2_with fail
    refine HK.out.mono ?_
    rintro e w1 ⟨rfl, hb1⟩
    go_wp2
    go_ret
    exact ⟨rfl, hb1⟩
  have hn2b : ((n2 : Int) == 0) = false := by simp; omega
  have hn2c : ¬ ((n2 : Int) = 0) := by omega
  have HR := Lib.hid (fun (W : World) => bRunes_any (w := W) s (by omega))
  obtain ⟨l, hl⟩ : ∃ l, s.data.toList = l := ⟨_, rfl⟩
  have hll : l.length ≤ 300 := by
    have h5 : s.data.toList.length = s.size := by simp
    rw [← hl]
    omega
  rw [hl] at HR
  have HSL : Hid ((⟨l.toArray⟩ : ByteArray) = s) := Lib.hid (by rw [← hl])
  clear hl
  go_enter Tryd.func3, Tryd.ntmps3
  go_wp2_with fail
  refine HK.out.mono ?_
  rintro e w1 ⟨rfl, hb1⟩
  clear HK
  go_wp2_with fail
  refine (HR.out w1).mono ?_
  rintro e w2 ⟨hg, hb2⟩
  have hb := hb1.trans (hb2.mono hb1.size)
  clear hb1 hb2 HR
  rcases hg with ⟨hv, v, n, rfl, ho⟩ | ⟨-, rfl⟩
  case inr =>
    go_wp2
    go_ret
    exact ⟨rfl, hb⟩
  obtain ⟨Ar, cr, rfl, hncr, -, hr⟩ := own_form ho
  have hnr : (rns l).length = n := by have := hr.len; simp at this; exact this
  have hn300 : n ≤ 300 := by have := rns_len2 l; omega
  have hok := Lib.hid (runes_ok hv)
  have HVL := Lib.hid hv
  clear ho hv
  go_wp2
  go_loopw [9, 10] (fun s9 s10 wr => ∃ (i q : Nat) (acc : List Int), s10 = .int .i64 i ∧ wr.ownsRow w2.heap.size 3 1 s9 q (acc.map ivr) ∧ i ≤ n ∧ q ≤ 2 * i ∧ Below w2.heap.size w2 wr ∧ Hid (acc ++ ((rns l).drop i).flatMap uni = unis l)) (fun _ s10 _ => n - (Go.RowKit.intOf s10).toNat)
  case atStart => exact ⟨0, 0, [], rfl, World.ownsRow_nil _ _ _ _, by omega, by omega, Below.refl _ _, Lib.hid (by simp [unis])⟩
  case round =>
    obtain ⟨i, q, acc, rfl, ho, hi, hq, hbel, HS⟩ := hrel
    have hsz := hbel.size
    by_cases hin : i < n
    · have hin' : (i : Int) < (n : Int) := by omega
      obtain ⟨pr, r, rfl, hab, hri, hcell⟩ := icellAt (hr.belowMono hbel (Nat.le_refl _)) hin
      have hrb := hok.out r (List.mem_of_getElem? hri)
      obtain ⟨hr0, hr1, -⟩ := hrb
      have HD := Lib.hid (show (rns l).drop i = r :: (rns l).drop (i + 1) by
        rw [List.drop_eq_getElem_cons (by omega)]
        rw [List.getElem?_eq_getElem (by omega)] at hri
        injection hri with hri
        rw [hri])
      clear hri
      by_cases hbig : r < 65536
      · have hbig' : ¬ (65536 : Int) ≤ r := by omega
        have HS2 : Hid ((acc ++ [r]) ++ ((rns l).drop (i + 1)).flatMap uni = unis l) := Lib.hid (by
          have := HS.out
          rw [HD.out, List.flatMap_cons, show uni r = [r] by unfold uni; rw [if_pos hbig]] at this
          simpa using this)
        clear HS HD
        go_wp2_with (at_builtin; refine wpList_app intsRow rfl (.tmp 68) (.tmp 70) rfl rfl rfl (ho.alloc _) (Rd.fresh _ _ 1 1 _ rfl) ?_ ?_ ?_ ?_ ?_)
        any_goals first | rfl | (unfold maxLen; omega) | omega | (intro u hu; simp at hu; subst hu; rfl) | exact ⟨rfl, rfl⟩ | (simp; omega)
        intro v9 w9 o9 g9 b9
        have hbel9 := (hbel.alloc hbel.size _).trans b9
        have o9' : w9.ownsRow w2.heap.size 3 1 v9 (q + 1) ((acc ++ [r]).map ivr) := by
          rw [List.map_append, List.map_cons, List.map_nil]
          exact o9
        clear o9 g9 b9 ho hbel hcell
        go_wp2
        go_roundw
        case rel => exact ⟨i + 1, q + 1, _, by go_num, o9', by omega, by omega, hbel9, HS2⟩
        case measure => simp [Go.RowKit.intOf] <;> omega
      · have hbig' : (65536 : Int) ≤ r := by omega
        have HS2 : Hid ((acc ++ [55296 + (r - 65536) / 1024, 56320 + (r - 65536) % 1024]) ++ ((rns l).drop (i + 1)).flatMap uni = unis l) := Lib.hid (by
          have := HS.out
          rw [HD.out, List.flatMap_cons, uni_big hbig] at this
          simpa using this)
        have f1 : bits .or .i64 55296 ((r - 65536) / 1024) = 55296 + (r - 65536) / 1024 := i64_or _ _ (by omega) (by omega) (by omega) (by omega) (by omega)
        have f2 : bits .and .i64 (r - 65536) 1023 = (r - 65536) % 1024 := i64_and _ (by omega) (by omega)
        have f3 : bits .or .i64 56320 ((r - 65536) % 1024) = 56320 + (r - 65536) % 1024 := i64_or _ _ (by omega) (by omega) (by omega) (by omega) (by omega)
        obtain ⟨p1, hp1⟩ : ∃ p1, 55296 + (r - 65536) / 1024 = p1 := ⟨_, rfl⟩
        obtain ⟨p2, hp2⟩ : ∃ p2, 56320 + (r - 65536) % 1024 = p2 := ⟨_, rfl⟩
        rw [hp1] at f1 HS2
        rw [hp2] at f3 HS2
        clear HS HD hp1 hp2
        go_wp2_with (at_builtin; refine wpList_app intsRow rfl (.tmp 57) (.tmp 66) rfl rfl rfl (ho.alloc _) (Rd.fresh _ _ 1 2 _ rfl) ?_ ?_ ?_ ?_ ?_)
        any_goals first | rfl | (unfold maxLen; omega) | omega | (intro u hu; simp at hu; rcases hu with rfl | rfl <;> rfl) | exact ⟨rfl, rfl⟩ | (simp; omega)
        intro v9 w9 o9 g9 b9
        have hbel9 := (hbel.alloc hbel.size _).trans b9
        have o9' : w9.ownsRow w2.heap.size 3 1 v9 (q + 2) ((acc ++ [p1, p2]).map ivr) := by
          rw [List.map_append, List.map_cons, List.map_cons, List.map_nil]
          exact o9
        clear o9 g9 b9 ho hbel hcell f1 f2 f3
        go_wp2
        go_roundw
        case rel => exact ⟨i + 1, q + 2, _, by go_num, o9', by omega, by omega, hbel9, HS2⟩
        case measure => simp [Go.RowKit.intOf] <;> omega
    · have hin' : ¬ (i : Int) < (n : Int) := by omega
      have hS := HS.out
      rw [List.drop_eq_nil_of_le (by omega), List.flatMap_nil, List.append_nil] at hS
      subst hS
      clear HS
      have hubd := unis_bd HVL.out
      have HUL : Hid (unN l = (unis l).length) := Lib.hid rfl
      obtain ⟨Au, cu, rfl, hncu, -, hru⟩ := own_form ho
      have hqN : (unis l).length = q := by have := hru.len; simpa using this
      have hq600 : q ≤ 600 := by omega
      have hbw := hb.trans (hbel.mono hb.size)
      obtain ⟨us, hus⟩ : ∃ us, unis l = us := ⟨_, rfl⟩
      have HUS := Lib.hid hus
      rw [hus] at hru hqN hubd
      clear ho hbel hr hus
      obtain ⟨G, hG⟩ : ∃ G, wr.heap.size = G := ⟨_, rfl⟩
      obtain ⟨wE, rfl⟩ : ∃ wE, wE = wr := ⟨_, rfl⟩
      have HN := Lib.hid hqN
      generalize hqq : q = N at *
      clear hqq hqN
      have hob0 := own_two wE 5 (.int .u8 ((N : Int) % 256)) (.int .u8 ((N : Int) / 256))
      have hbg00 := (Below.refl wE.heap.size wE).alloc (Nat.le_refl _) (.cells #[.int .u8 ((N : Int) % 256), .int .u8 ((N : Int) / 256)] 5)
      rw [hG] at hob0 hbg00 hru
      go_wp2
      generalize hWW : wE.alloc (.cells #[.int .u8 ((N : Int) % 256), .int .u8 ((N : Int) / 256)] 5) = wS at *
      clear hWW
      have hGle : w.heap.size ≤ G := by rw [← hG]; exact hbw.size
      have hbwE := hbw
      clear hbw hsz
      go_loopw [12, 13, 14, 15, 16] (fun s12 s13 s14 s15 s16 wx => ∃ (i p wv nb nc : Nat) (bl : List UInt8) (cs : List Int), s16 = .int .i64 i ∧ s14 = .int .i64 p ∧ s15 = .int .i64 wv ∧ i ≤ N ∧ p ≤ i ∧ wv ≤ 1 ∧ wx.ownsRow G 5 1 s12 nb (bl.map bv) ∧ wx.ownsRow G 3 1 s13 nc (cs.map ivr) ∧ nb ≤ 2 + 3 * i ∧ nc ≤ i ∧ Below G wE wx ∧ Hid ((i = 0 ∧ bl = b2 (N : Int) ∧ cs = []) ∨ (1 ≤ i ∧ St us zs i bl cs wv))) (fun _ _ _ _ s16 _ => N + 1 - (Go.RowKit.intOf s16).toNat)
      case atStart => exact ⟨0, 0, 0, 2, 0, b2 (N : Int), [], rfl, rfl, rfl, by omega, by omega, by omega, by rw [b2_map _ (by omega)]; exact hob0, World.ownsRow_nil _ _ _ _, by omega, by omega, hbg00, Lib.hid (.inl ⟨rfl, rfl, rfl⟩)⟩
      case round =>
        clear hob0 hbg00
        obtain ⟨i, p, wv0, nb, nc, bl, cs, rfl, rfl, rfl, hi, hp, hwv0, hob0, hoc0, hnb, hnc, hbg0, HS⟩ := hrel
        have hbw : Below w.heap.size w wr := hbwE.trans (hbg0.mono hGle)
        have hi' : (i : Int) ≤ (N : Int) := by omega
        have hlb : ((bl.length : Nat) : Int) = (nb : Int) := by
          have := hob0.1
          rw [List.length_map, Nat.mul_one] at this
          omega
        go_wp2
        go_loopw [17, 18] (fun s17 s18 wx => ∃ (k : Nat) (cv : Bool), s18 = .int .i64 k ∧ k ≤ n1 ∧ wx = wr ∧ s17 = .bool cv ∧ Hid ((zs.take k).any (fun x => x.toNat == i) = cv)) (fun _ s18 _ => n1 - (Go.RowKit.intOf s18).toNat)
        case atStart => refine ⟨0, false, ?_, ?_, ?_, ?_, Lib.hid (by simp)⟩ <;> first | rfl | trivial | omega
        case round =>
          obtain ⟨k, cv, rfl, hk, rfl, rfl, HC⟩ := hrel
          by_cases hkn : k < n1
          · have hkn' : (k : Int) < (n1 : Int) := by omega
            obtain ⟨pz, x, rfl, hpz, hxk, hcz⟩ := bcellAt (h1.belowMono hbw hB1) hkn
            have HC2 : Hid ((zs.take (k + 1)).any (fun x => x.toNat == i) = (cv || (x.toNat == i))) := Lib.hid (by
              have hi2 := (List.getElem?_eq_some_iff.1 hxk).1
              rw [← List.take_append_getElem hi2, List.any_append, HC.out]
              rw [List.getElem?_eq_getElem hi2] at hxk
              injection hxk with hxk
              rw [hxk]
              simp)
            obtain ⟨X, hX⟩ : ∃ X : Int, ((x.toNat : Nat) : Int) = X := ⟨_, rfl⟩
            have hX0 : 0 ≤ X := by omega
            have hX1 : X < 256 := by have := x.toNat_lt; omega
            rw [hX] at hcz
            clear HC hxk
            cases cv
            · by_cases hxi : X = (i : Int)
              · have HC3 : Hid ((zs.take (k + 1)).any (fun x => x.toNat == i) = true) := Lib.hid (by rw [HC2.out]; simp; omega)
                have hxi2 : ((i : Int) == (i : Int)) = true := by simp
                have hi256 : (i : Int) < 256 := by omega
                rw [hxi] at hcz
                clear HC2 hX hxi
                go_wp2
                go_roundw
                case rel => refine ⟨k + 1, true, ?_, ?_, ?_, ?_, HC3⟩ <;> first | rfl | trivial | go_num | omega
                case measure => simp [Go.RowKit.intOf] <;> omega
              · have HC3 : Hid ((zs.take (k + 1)).any (fun x => x.toNat == i) = false) := Lib.hid (by rw [HC2.out]; simp; omega)
                have hxi2 : (X == (i : Int)) = false := by simp; omega
                clear HC2 hX
                go_wp2
                go_roundw
                case rel => refine ⟨k + 1, false, ?_, ?_, ?_, ?_, HC3⟩ <;> first | rfl | trivial | go_num | omega
                case measure => simp [Go.RowKit.intOf] <;> omega
            · have HC3 : Hid ((zs.take (k + 1)).any (fun x => x.toNat == i) = true) := Lib.hid (by rw [HC2.out]; simp)
              clear HC2 hX
              go_wp2
              go_roundw
              case rel => refine ⟨k + 1, true, ?_, ?_, ?_, ?_, HC3⟩ <;> first | rfl | trivial | go_num | omega
              case measure => simp [Go.RowKit.intOf] <;> omega
          · have hkn' : ¬ (k : Int) < (n1 : Int) := by omega
            have hct : cutB zs i = cv := by
              have := HC.out
              rw [List.take_of_length_le (by have := h1.blen; omega)] at this
              exact this
            have HCT := Lib.hid hct
            clear HC hct
            by_cases hiN : i = N
            · subst hiN
              have hii : ((i : Int) == (i : Int)) = true := by simp
              obtain ⟨Ab, cb, rfl, -, -, -⟩ := own_form hob0
              by_cases hi0 : i = 0
              · subst hi0
                have hbc : bl = b2 ((0 : Nat) : Int) ∧ cs = [] := by
                  rcases HS.out with ⟨-, e1, e2⟩ | ⟨e1, -⟩
                  · exact ⟨e1, e2⟩
                  · omega
                obtain ⟨rfl, rfl⟩ := hbc
                have HB : Hid (rdS (b2 ((0 : Nat) : Int) ++ [0] ++ [7]) [] 0 = (l, nb + 1, 0)) := Lib.hid (by
                  have hz : unN l = 0 := by rw [HUL.out, HUS.out]; exact HN.out
                  have hP := pre_first (unis l) (unN l) 0
                  have hh := all_back (b := b2 (unN l : Int) ++ [UInt8.ofNat 0]) (t := []) HVL.out (by omega) (by omega) rfl (by rw [hz] at hP ⊢; exact hP)
                  rw [hz] at hh
                  have hl2 : (b2 ((0 : Nat) : Int) ++ [UInt8.ofNat 0]).length = nb + 1 := by rw [List.length_append, List.length_singleton]; omega
                  rw [hl2] at hh
                  exact hh)
                have HAP : Hid (([] : List Int).Pairwise fun x y => x + 2 ≤ y) := Lib.hid .nil
                clear HS
                have hsz0 := Nat.le_trans (Nat.le_of_eq hG.symm) hbg0.size
                go_wp2_with (at_builtin; refine wpList_app bytesRow rfl (.tmp 108) (.tmp 109) rfl rfl rfl (hob0.alloc _) (Rd.fresh _ _ 1 1 _ rfl) ?_ ?_ ?_ ?_ ?_)
                any_goals first | rfl | (unfold maxLen; omega) | omega | (intro u hu; simp at hu; subst hu; rfl) | exact ⟨rfl, rfl⟩ | (simp; omega)
                intro v1 w1x o1 g1 bb1
                have hob1 : w1x.ownsRow G 5 1 v1 (nb + 1) ((b2 ((0 : Nat) : Int) ++ [0]).map bv) := by
                  first
                    | (rw [List.map_append, List.map_cons, List.map_nil]; exact o1)
                    | (simpa [bv_by8] using o1)
                    | (have h256 : u / 256 % 256 = u / 256 := by omega
                       simpa [bv_by8, h256] using o1)
                have hoc1 := own_grew g1 (hob0.alloc _) (hoc0.alloc _) (by decide)
                have hbg1 := (hbg0.alloc hsz0 _).trans bb1
                clear o1 g1 bb1 hob0 hoc0 hbg0
                obtain ⟨Ac, cc, rfl, hCC⟩ := cuts_of hoc1 (apart_up HAP.out) (by omega)
                obtain ⟨Ab2, cb2, rfl, -, -, -⟩ := own_form hob1
                have hsz1 := Nat.le_trans (Nat.le_of_eq hG.symm) hbg1.size
                go_wp2_with (at_builtin; refine wpList_app bytesRow rfl (.tmp 179) (.tmp 180) rfl rfl rfl (hob1.alloc _) (Rd.fresh _ _ 1 1 _ rfl) ?_ ?_ ?_ ?_ ?_)
                any_goals first | rfl | (unfold maxLen; omega) | omega | (intro u hu; simp at hu; subst hu; rfl) | exact ⟨rfl, rfl⟩ | (simp; omega)
                intro v2 w2x o2 g2 bb2
                have hob2 : w2x.ownsRow G 5 1 v2 ((nb + 1) + 1) (((b2 ((0 : Nat) : Int) ++ [0]) ++ [7]).map bv) := by
                  first
                    | (rw [List.map_append, List.map_cons, List.map_nil]; exact o2)
                    | (simpa [bv_by8] using o2)
                    | (have h256 : u / 256 % 256 = u / 256 := by omega
                       simpa [bv_by8, h256] using o2)
                have hoc2 := own_grew g2 (hob1.alloc _) (hoc1.alloc _) (by decide)
                have hbg2 := (hbg1.alloc hsz1 _).trans bb2
                clear o2 g2 bb2 hob1 hoc1 hbg1
                obtain ⟨A7, c7, rfl, hnc7, -, hr7⟩ := own_form hob2
                obtain ⟨Ac2, cc2, hcc2, hCC2⟩ := cuts_of hoc2 (apart_up HAP.out) (by omega)
                injection hcc2 with e1 e2 e3
                subst e1 e3
                have hbF := hbwE.trans (hbg2.mono hGle)
                have hget := get_any (c := c7) (at_ := 0) (c' := cc) hr7 hCC2 hnc7 (by omega) (Nat.le_refl _) (by omega) (apart_no HAP.out)
                rw [HB.out] at hget
                simp only [HSL.out] at hget
                have HG := Lib.hid hget
                clear hget hob2 hoc2 hbg2 hr7 hCC2
                unfold cur at HG
                go_wp2_with fail
                refine HG.out.mono ?_
                rintro e w5 ⟨rfl, hb5⟩
                have hbF2 := hbF.trans (hb5.mono hbF.size)
                have k21 := Bk.new w5 30 #[.slice A7 (((nb + 1) + 1)) c7, .int .i64 ((nb + 1) : Nat)]
                have q1 := k21.cell 1
                have hbF3 := hbF2.alloc hbF2.size (.cells #[.slice A7 (((nb + 1) + 1)) c7, .int .i64 ((nb + 1) : Nat)] 30)
                clear hbF hbF2 hb5 HG
                go_wp2
                go_ret
                exact ⟨rfl, hbF3⟩
              · have hi0b : ((i : Int) == 0) = false := by simp; omega
                have HST : Hid (St us zs i bl cs wv0) := Lib.hid (by
                  rcases HS.out with ⟨e1, -⟩ | ⟨-, e1⟩
                  · exact absurd e1 hi0
                  · exact e1)
                have HB : Hid (rdS (bl ++ [7]) cs 0 = (l, nb, 0)) := Lib.hid (by
                  obtain ⟨w0, t0, a1, a2, a3⟩ := HST.out.head
                  have hz : unN l = i := by rw [HUL.out, HUS.out]; exact HN.out
                  rw [HN.out, ← hz] at a2
                  rw [← HUS.out, ← hz] at a3
                  have hh := all_back HVL.out (by omega) a1 a2 a3
                  rw [show bl.length = nb by omega] at hh
                  exact hh)
                have HAP := Lib.hid HST.out.apart
                clear HS HST
                obtain ⟨Ac, cc, rfl, hCC⟩ := cuts_of hoc0 (apart_up HAP.out) (by omega)
                have hsz0 := Nat.le_trans (Nat.le_of_eq hG.symm) hbg0.size
                go_wp2_with (at_builtin; refine wpList_app bytesRow rfl (.tmp 179) (.tmp 180) rfl rfl rfl (hob0.alloc _) (Rd.fresh _ _ 1 1 _ rfl) ?_ ?_ ?_ ?_ ?_)
                any_goals first | rfl | (unfold maxLen; omega) | omega | (intro u hu; simp at hu; subst hu; rfl) | exact ⟨rfl, rfl⟩ | (simp; omega)
                intro v3 w3x o3 g3 bb3
                have hob3 : w3x.ownsRow G 5 1 v3 (nb + 1) ((bl ++ [7]).map bv) := by
                  first
                    | (rw [List.map_append, List.map_cons, List.map_nil]; exact o3)
                    | (simpa [bv_by8] using o3)
                    | (have h256 : u / 256 % 256 = u / 256 := by omega
                       simpa [bv_by8, h256] using o3)
                have hoc3 := own_grew g3 (hob0.alloc _) (hoc0.alloc _) (by decide)
                have hbg3 := (hbg0.alloc hsz0 _).trans bb3
                clear o3 g3 bb3 hob0 hoc0 hbg0
                obtain ⟨A7, c7, rfl, hnc7, -, hr7⟩ := own_form hob3
                obtain ⟨Ac2, cc2, hcc2, hCC2⟩ := cuts_of hoc3 (apart_up HAP.out) (by omega)
                injection hcc2 with e1 e2 e3
                subst e1 e3
                have hbF := hbwE.trans (hbg3.mono hGle)
                have hget := get_any (c := c7) (at_ := 0) (c' := cc) hr7 hCC2 hnc7 (by omega) (Nat.le_refl _) (by omega) (apart_no HAP.out)
                rw [HB.out] at hget
                simp only [HSL.out] at hget
                have HG := Lib.hid hget
                clear hget hob3 hoc3 hbg3 hr7 hCC2
                unfold cur at HG
                go_wp2_with fail
                refine HG.out.mono ?_
                rintro e w5 ⟨rfl, hb5⟩
                have hbF2 := hbF.trans (hb5.mono hbF.size)
                have k21 := Bk.new w5 30 #[.slice A7 ((nb + 1)) c7, .int .i64 (nb : Nat)]
                have q1 := k21.cell 1
                have hbF3 := hbF2.alloc hbF2.size (.cells #[.slice A7 ((nb + 1)) c7, .int .i64 (nb : Nat)] 30)
                clear hbF hbF2 hb5 HG
                go_wp2
                go_ret
                exact ⟨rfl, hbF3⟩
            · have hiN1 : i < N := by omega
              have hiN2 : ((i : Int) == (N : Int)) = false := by simp; omega
              have hiN3 : ¬ ((i : Int) = (N : Int)) := by omega
              obtain ⟨pu, u, rfl, hpu, hui, hcuE⟩ := icellAt hru hiN1
              have hub := hubd u (List.mem_of_getElem? hui)
              have hu0 := hub.1
              have hu1 := hub.2
              have hcu := keepG hbg0 hpu hcuE
              by_cases hi0 : i = 0
              · subst hi0
                have hbc : bl = b2 (N : Int) ∧ cs = [] := by
                  rcases HS.out with ⟨-, e1, e2⟩ | ⟨e1, -⟩
                  · exact ⟨e1, e2⟩
                  · omega
                obtain ⟨rfl, rfl⟩ := hbc
                clear HS
                have hm1 : 0 < n2 := by omega
                have hpm : p % n2 < n2 := Nat.mod_lt _ hm1
                have hpm3 : p % n2 ≤ p := Nat.mod_le _ _
                have hpm' : (p : Int).tmod (n2 : Int) = ((p % n2 : Nat) : Int) := by rw [Int.tmod_eq_emod_of_nonneg (by omega)]; omega
                have hpm2 : (p : Int) % (n2 : Int) = ((p % n2 : Nat) : Int) := by omega
                obtain ⟨pw, x, rfl, hpw, -, hcw⟩ := bcellAt (h2.belowMono hbw hB2) hpm
                obtain ⟨X, hX⟩ : ∃ X : Int, ((x.toNat : Nat) : Int) = X := ⟨_, rfl⟩
                have hX0 : 0 ≤ X := by omega
                have hX1 : X < 256 := by have := x.toNat_lt; omega
                rw [hX] at hcw
                obtain ⟨wv, hwv⟩ : ∃ wv : Nat, x.toNat % 2 = wv := ⟨_, rfl⟩
                have hwv1 : wv ≤ 1 := by omega
                have hwx : X % 2 = (wv : Int) := by omega
                have hwx2 : X.tmod 2 = (wv : Int) := by rw [Int.tmod_eq_emod_of_nonneg (by omega)]; omega
                clear hwv hX
                obtain ⟨pm, hpmm⟩ : ∃ pm, p % n2 = pm := ⟨_, rfl⟩
                rw [hpmm] at hpm' hpm2 hcw hpm hpm3
                clear hpmm
                go_wp2
                go_loopw [15, 19] (fun s15 s19 wx => ∃ k v : Nat, s19 = .int .i64 k ∧ s15 = .int .i64 v ∧ 0 ≤ k ∧ k ≤ N ∧ v ≤ 1 ∧ wx = wr ∧ Hid ((∀ j, 0 < j → j < k → cutB zs j = false) ∧ (v = 0 → ∀ k', 0 ≤ k' → k' < k → ∀ u, us[k']? = some u → u < 256))) (fun _ s19 _ => N - (Go.RowKit.intOf s19).toNat)
                case atStart => refine ⟨0, wv, ?_, ?_, ?_, ?_, ?_, ?_, Lib.hid ⟨fun j h1 h2 => by omega, fun _ k' h1 h2 => by omega⟩⟩ <;> first | rfl | trivial | omega
                case round =>
                  obtain ⟨k, v, rfl, rfl, hik, hkN, hv1, rfl, HW⟩ := hrel
                  by_cases hkN1 : k < N
                  · have hkN2 : (k : Int) < (N : Int) := by omega
                    obtain ⟨q, u2, hq, -, hu2, hcu2⟩ := icellAt (hru.belowMono hbg0 (Nat.le_refl _)) hkN1
                    injection hq with hq
                    subst hq
                    have HAt := Lib.hid (isAt_any (k := k) (c := c1) (h1.belowMono hbw hB1) (by omega))
                    by_cases hki : 0 < k
                    · have hki' : (0 : Int) < (k : Int) := by omega
                      obtain ⟨ck, hck⟩ : ∃ ck, cutB zs k = ck := ⟨_, rfl⟩
                      have hAt2 := HAt.out
                      rw [hck] at hAt2
                      clear HAt
                      have HAt := Lib.hid hAt2
                      clear hAt2
                      cases ck
                      · have hcut' : ∀ j, 0 < j → j < k + 1 → cutB zs j = false := fun j h1 h2 => by
                          by_cases hj : j = k
                          · subst hj; exact hck
                          · exact HW.out.1 j h1 (by omega)
                        have HC := Lib.hid hcut'
                        clear hcut'
                        by_cases hbig : u2 > 255
                        · have hb1 : (255 : Int) < u2 := by omega
                          have HW2 : Hid ((∀ j, 0 < j → j < k + 1 → cutB zs j = false) ∧ ((1 : Nat) = 0 → ∀ k', 0 ≤ k' → k' < k + 1 → ∀ u, us[k']? = some u → u < 256)) := Lib.hid ⟨HC.out, fun h => by omega⟩
                          clear HW HC hu2
                          go_wp2_with fail
                          refine HAt.out.mono ?_
                          rintro e w5 ⟨rfl, rfl⟩
                          clear HAt
                          go_wp2
                          go_roundw
                          case rel => refine ⟨k + 1, 1, ?_, ?_, ?_, ?_, ?_, ?_, HW2⟩ <;> first | rfl | trivial | go_num | omega
                          case measure => simp [Go.RowKit.intOf] <;> omega
                        · have hb1 : ¬ (255 : Int) < u2 := by omega
                          have HW2 : Hid ((∀ j, 0 < j → j < k + 1 → cutB zs j = false) ∧ (v = 0 → ∀ k', 0 ≤ k' → k' < k + 1 → ∀ u, us[k']? = some u → u < 256)) := Lib.hid ⟨HC.out, fun h0 k' h1 h2 u hu => by
                            by_cases hk : k' = k
                            · subst hk
                              rw [hu2] at hu
                              injection hu with hu
                              omega
                            · exact HW.out.2 h0 k' h1 (by omega) u hu⟩
                          clear HW HC hu2
                          go_wp2_with fail
                          refine HAt.out.mono ?_
                          rintro e w5 ⟨rfl, rfl⟩
                          clear HAt
                          go_wp2
                          go_roundw
                          case rel => refine ⟨k + 1, v, ?_, ?_, ?_, ?_, ?_, ?_, HW2⟩ <;> first | rfl | trivial | go_num | omega
                          case measure => simp [Go.RowKit.intOf] <;> omega
                      · have HWid : Hid (Wid us zs 0 v) := Lib.hid ⟨hv1, fun h0 k' hk' hcc u hu => by
                          by_cases hkk : k' < k
                          · exact HW.out.2 h0 k' hk' hkk u hu
                          · have := hcc k hki (by omega)
                            rw [hck] at this
                            cases this⟩
                        clear HW hu2 hcu2 hck
                        go_wp2_with fail
                        refine HAt.out.mono ?_
                        rintro e w5 ⟨rfl, rfl⟩
                        clear HAt
                        have hw01 : v = 0 ∨ v = 1 := by omega
                        rcases hw01 with rfl | rfl
                        · have hsz0 := Nat.le_trans (Nat.le_of_eq hG.symm) hbg0.size
                          go_wp2_with (at_builtin; refine wpList_app bytesRow rfl (.tmp 152) (.tmp 155) rfl rfl rfl (hob0.alloc _) (Rd.fresh _ _ 1 1 _ rfl) ?_ ?_ ?_ ?_ ?_)
                          any_goals first | rfl | (unfold maxLen; omega) | omega | (intro u hu; simp at hu; subst hu; rfl) | exact ⟨rfl, rfl⟩ | (simp; omega)
                          intro v4 w4x o4 g4 bb4
                          have hob4 : w4x.ownsRow G 5 1 v4 (nb + 1) ((b2 (N : Int) ++ [UInt8.ofNat 0]).map bv) := by
                            first
                              | (rw [List.map_append, List.map_cons, List.map_nil]; exact o4)
                              | (simpa [bv_by8] using o4)
                              | (have h256 : u / 256 % 256 = u / 256 := by omega
                                 simpa [bv_by8, h256] using o4)
                          have hoc4 := own_grew g4 (hob0.alloc _) (hoc0.alloc _) (by decide)
                          have hbg4 := (hbg0.alloc hsz0 _).trans bb4
                          clear o4 g4 bb4 hob0 hoc0 hbg0
                          have hcu := keepG hbg4 hpu hcuE
                          have hcu0 := hcu
                          rw [show pu.add 0 = pu from rfl] at hcu0
                          have hsz4 := Nat.le_trans (Nat.le_of_eq hG.symm) hbg4.size
                          go_wp2_with (at_builtin; refine wpList_app bytesRow rfl (.tmp 159) (.tmp 165) rfl rfl rfl (hob4.alloc _) (Rd.fresh _ _ 1 1 _ rfl) ?_ ?_ ?_ ?_ ?_)
                          any_goals first | rfl | (unfold maxLen; omega) | omega | (intro u hu; simp at hu; subst hu; rfl) | exact ⟨rfl, rfl⟩ | (simp; omega)
                          intro v5 w5x o5 g5 bb5
                          have hob5 : w5x.ownsRow G 5 1 v5 ((nb + 1) + 1) (((b2 (N : Int) ++ [UInt8.ofNat 0]) ++ [by8 u]).map bv) := by
                            first
                              | (rw [List.map_append, List.map_cons, List.map_nil]; exact o5)
                              | (simpa [bv_by8] using o5)
                              | (have h256 : u / 256 % 256 = u / 256 := by omega
                                 simpa [bv_by8, h256] using o5)
                          have hoc5 := own_grew g5 (hob4.alloc _) (hoc4.alloc _) (by decide)
                          have hbg5 := (hbg4.alloc hsz4 _).trans bb5
                          clear o5 g5 bb5 hob4 hoc4 hbg4
                          go_wp2
                          go_roundw
                          case rel => exact ⟨0 + 1, (p + 1), 0, ((nb + 1) + 1), nc, ((b2 (N : Int) ++ [UInt8.ofNat 0]) ++ [by8 u]), ([] : List Int), by go_num, by go_num, by first | rfl | go_num, by omega, by omega, by omega, hob5, hoc5, by omega, by omega, hbg5, Lib.hid (.inr ⟨by omega, by have := St.first HWid.out hui hub; rw [HN.out] at this; simpa [ub] using this⟩)⟩
                          case measure => simp [Go.RowKit.intOf] <;> omega
                        · have hsz0 := Nat.le_trans (Nat.le_of_eq hG.symm) hbg0.size
                          go_wp2_with (at_builtin; refine wpList_app bytesRow rfl (.tmp 152) (.tmp 155) rfl rfl rfl (hob0.alloc _) (Rd.fresh _ _ 1 1 _ rfl) ?_ ?_ ?_ ?_ ?_)
                          any_goals first | rfl | (unfold maxLen; omega) | omega | (intro u hu; simp at hu; subst hu; rfl) | exact ⟨rfl, rfl⟩ | (simp; omega)
                          intro v6 w6x o6 g6 bb6
                          have hob6 : w6x.ownsRow G 5 1 v6 (nb + 1) ((b2 (N : Int) ++ [UInt8.ofNat 1]).map bv) := by
                            first
                              | (rw [List.map_append, List.map_cons, List.map_nil]; exact o6)
                              | (simpa [bv_by8] using o6)
                              | (have h256 : u / 256 % 256 = u / 256 := by omega
                                 simpa [bv_by8, h256] using o6)
                          have hoc6 := own_grew g6 (hob0.alloc _) (hoc0.alloc _) (by decide)
                          have hbg6 := (hbg0.alloc hsz0 _).trans bb6
                          clear o6 g6 bb6 hob0 hoc0 hbg0
                          have hcu := keepG hbg6 hpu hcuE
                          have hcu0 := hcu
                          rw [show pu.add 0 = pu from rfl] at hcu0
                          have hsz6 := Nat.le_trans (Nat.le_of_eq hG.symm) hbg6.size
                          go_wp2_with (at_builtin; refine wpList_app bytesRow rfl (.tmp 159) (.tmp 165) rfl rfl rfl (hob6.alloc _) (Rd.fresh _ _ 1 1 _ rfl) ?_ ?_ ?_ ?_ ?_)
                          any_goals first | rfl | (unfold maxLen; omega) | omega | (intro u hu; simp at hu; subst hu; rfl) | exact ⟨rfl, rfl⟩ | (simp; omega)
                          intro v7 w7x o7 g7 bb7
                          have hob7 : w7x.ownsRow G 5 1 v7 ((nb + 1) + 1) (((b2 (N : Int) ++ [UInt8.ofNat 1]) ++ [by8 u]).map bv) := by
                            first
                              | (rw [List.map_append, List.map_cons, List.map_nil]; exact o7)
                              | (simpa [bv_by8] using o7)
                              | (have h256 : u / 256 % 256 = u / 256 := by omega
                                 simpa [bv_by8, h256] using o7)
                          have hoc7 := own_grew g7 (hob6.alloc _) (hoc6.alloc _) (by decide)
                          have hbg7 := (hbg6.alloc hsz6 _).trans bb7
                          clear o7 g7 bb7 hob6 hoc6 hbg6
                          have hcu := keepG hbg7 hpu hcuE
                          have hcu0 := hcu
                          rw [show pu.add 0 = pu from rfl] at hcu0
                          have hsz7 := Nat.le_trans (Nat.le_of_eq hG.symm) hbg7.size
                          go_wp2_with (at_builtin; refine wpList_app bytesRow rfl (.tmp 169) (.tmp 176) rfl rfl rfl (hob7.alloc _) (Rd.fresh _ _ 1 1 _ rfl) ?_ ?_ ?_ ?_ ?_)
                          any_goals first | rfl | (unfold maxLen; omega) | omega | (intro u hu; simp at hu; subst hu; rfl) | exact ⟨rfl, rfl⟩ | (simp; omega)
                          intro v8 w8x o8 g8 bb8
                          have hob8 : w8x.ownsRow G 5 1 v8 (((nb + 1) + 1) + 1) ((((b2 (N : Int) ++ [UInt8.ofNat 1]) ++ [by8 u]) ++ [by8 (u / 256)]).map bv) := by
                            first
                              | (rw [List.map_append, List.map_cons, List.map_nil]; exact o8)
                              | (simpa [bv_by8] using o8)
                              | (have h256 : u / 256 % 256 = u / 256 := by omega
                                 simpa [bv_by8, h256] using o8)
                          have hoc8 := own_grew g8 (hob7.alloc _) (hoc7.alloc _) (by decide)
                          have hbg8 := (hbg7.alloc hsz7 _).trans bb8
                          clear o8 g8 bb8 hob7 hoc7 hbg7
                          go_wp2
                          go_roundw
                          case rel => exact ⟨0 + 1, (p + 1), 1, (((nb + 1) + 1) + 1), nc, (((b2 (N : Int) ++ [UInt8.ofNat 1]) ++ [by8 u]) ++ [by8 (u / 256)]), ([] : List Int), by go_num, by go_num, by first | rfl | go_num, by omega, by omega, by omega, hob8, hoc8, by omega, by omega, hbg8, Lib.hid (.inr ⟨by omega, by have := St.first HWid.out hui hub; rw [HN.out] at this; simpa [ub] using this⟩)⟩
                          case measure => simp [Go.RowKit.intOf] <;> omega
                    · have hkie : k = 0 := by omega
                      have hki' : ¬ (0 : Int) < (k : Int) := by omega
                      have HC : Hid (∀ j, 0 < j → j < k + 1 → cutB zs j = false) := Lib.hid fun j h1 h2 => by omega
                      clear HAt hkie
                      by_cases hbig : u2 > 255
                      · have hb1 : (255 : Int) < u2 := by omega
                        have HW2 : Hid ((∀ j, 0 < j → j < k + 1 → cutB zs j = false) ∧ ((1 : Nat) = 0 → ∀ k', 0 ≤ k' → k' < k + 1 → ∀ u, us[k']? = some u → u < 256)) := Lib.hid ⟨HC.out, fun h => by omega⟩
                        clear HW HC hu2

                        go_wp2
                        go_roundw
                        case rel => refine ⟨k + 1, 1, ?_, ?_, ?_, ?_, ?_, ?_, HW2⟩ <;> first | rfl | trivial | go_num | omega
                        case measure => simp [Go.RowKit.intOf] <;> omega
                      · have hb1 : ¬ (255 : Int) < u2 := by omega
                        have HW2 : Hid ((∀ j, 0 < j → j < k + 1 → cutB zs j = false) ∧ (v = 0 → ∀ k', 0 ≤ k' → k' < k + 1 → ∀ u, us[k']? = some u → u < 256)) := Lib.hid ⟨HC.out, fun h0 k' h1 h2 u hu => by
                          by_cases hk : k' = k
                          · subst hk
                            rw [hu2] at hu
                            injection hu with hu
                            omega
                          · exact HW.out.2 h0 k' h1 (by omega) u hu⟩
                        clear HW HC hu2

                        go_wp2
                        go_roundw
                        case rel => refine ⟨k + 1, v, ?_, ?_, ?_, ?_, ?_, ?_, HW2⟩ <;> first | rfl | trivial | go_num | omega
                        case measure => simp [Go.RowKit.intOf] <;> omega
                  · have hkN2 : ¬ (k : Int) < (N : Int) := by omega
                    have HWid : Hid (Wid us zs 0 v) := Lib.hid ⟨hv1, fun h0 k' hk' hcc u hu => HW.out.2 h0 k' hk' (by have := (List.getElem?_eq_some_iff.1 hu).1; have := HN.out; omega) u hu⟩
                    clear HW
                    have hw01 : v = 0 ∨ v = 1 := by omega
                    rcases hw01 with rfl | rfl
                    · have hsz0 := Nat.le_trans (Nat.le_of_eq hG.symm) hbg0.size
                      go_wp2_with (at_builtin; refine wpList_app bytesRow rfl (.tmp 152) (.tmp 155) rfl rfl rfl (hob0.alloc _) (Rd.fresh _ _ 1 1 _ rfl) ?_ ?_ ?_ ?_ ?_)
                      any_goals first | rfl | (unfold maxLen; omega) | omega | (intro u hu; simp at hu; subst hu; rfl) | exact ⟨rfl, rfl⟩ | (simp; omega)
                      intro v9 w9x o9 g9 bb9
                      have hob9 : w9x.ownsRow G 5 1 v9 (nb + 1) ((b2 (N : Int) ++ [UInt8.ofNat 0]).map bv) := by
                        first
                          | (rw [List.map_append, List.map_cons, List.map_nil]; exact o9)
                          | (simpa [bv_by8] using o9)
                          | (have h256 : u / 256 % 256 = u / 256 := by omega
                             simpa [bv_by8, h256] using o9)
                      have hoc9 := own_grew g9 (hob0.alloc _) (hoc0.alloc _) (by decide)
                      have hbg9 := (hbg0.alloc hsz0 _).trans bb9
                      clear o9 g9 bb9 hob0 hoc0 hbg0
                      have hcu := keepG hbg9 hpu hcuE
                      have hcu0 := hcu
                      rw [show pu.add 0 = pu from rfl] at hcu0
                      have hsz9 := Nat.le_trans (Nat.le_of_eq hG.symm) hbg9.size
                      go_wp2_with (at_builtin; refine wpList_app bytesRow rfl (.tmp 159) (.tmp 165) rfl rfl rfl (hob9.alloc _) (Rd.fresh _ _ 1 1 _ rfl) ?_ ?_ ?_ ?_ ?_)
                      any_goals first | rfl | (unfold maxLen; omega) | omega | (intro u hu; simp at hu; subst hu; rfl) | exact ⟨rfl, rfl⟩ | (simp; omega)
                      intro v10 w10x o10 g10 bb10
                      have hob10 : w10x.ownsRow G 5 1 v10 ((nb + 1) + 1) (((b2 (N : Int) ++ [UInt8.ofNat 0]) ++ [by8 u]).map bv) := by
                        first
                          | (rw [List.map_append, List.map_cons, List.map_nil]; exact o10)
                          | (simpa [bv_by8] using o10)
                          | (have h256 : u / 256 % 256 = u / 256 := by omega
                             simpa [bv_by8, h256] using o10)
                      have hoc10 := own_grew g10 (hob9.alloc _) (hoc9.alloc _) (by decide)
                      have hbg10 := (hbg9.alloc hsz9 _).trans bb10
                      clear o10 g10 bb10 hob9 hoc9 hbg9
                      go_wp2
                      go_roundw
                      case rel => exact ⟨0 + 1, (p + 1), 0, ((nb + 1) + 1), nc, ((b2 (N : Int) ++ [UInt8.ofNat 0]) ++ [by8 u]), ([] : List Int), by go_num, by go_num, by first | rfl | go_num, by omega, by omega, by omega, hob10, hoc10, by omega, by omega, hbg10, Lib.hid (.inr ⟨by omega, by have := St.first HWid.out hui hub; rw [HN.out] at this; simpa [ub] using this⟩)⟩
                      case measure => simp [Go.RowKit.intOf] <;> omega
                    · have hsz0 := Nat.le_trans (Nat.le_of_eq hG.symm) hbg0.size
                      go_wp2_with (at_builtin; refine wpList_app bytesRow rfl (.tmp 152) (.tmp 155) rfl rfl rfl (hob0.alloc _) (Rd.fresh _ _ 1 1 _ rfl) ?_ ?_ ?_ ?_ ?_)
                      any_goals first | rfl | (unfold maxLen; omega) | omega | (intro u hu; simp at hu; subst hu; rfl) | exact ⟨rfl, rfl⟩ | (simp; omega)
                      intro v11 w11x o11 g11 bb11
                      have hob11 : w11x.ownsRow G 5 1 v11 (nb + 1) ((b2 (N : Int) ++ [UInt8.ofNat 1]).map bv) := by
                        first
                          | (rw [List.map_append, List.map_cons, List.map_nil]; exact o11)
                          | (simpa [bv_by8] using o11)
                          | (have h256 : u / 256 % 256 = u / 256 := by omega
                             simpa [bv_by8, h256] using o11)
                      have hoc11 := own_grew g11 (hob0.alloc _) (hoc0.alloc _) (by decide)
                      have hbg11 := (hbg0.alloc hsz0 _).trans bb11
                      clear o11 g11 bb11 hob0 hoc0 hbg0
                      have hcu := keepG hbg11 hpu hcuE
                      have hcu0 := hcu
                      rw [show pu.add 0 = pu from rfl] at hcu0
                      have hsz11 := Nat.le_trans (Nat.le_of_eq hG.symm) hbg11.size
                      go_wp2_with (at_builtin; refine wpList_app bytesRow rfl (.tmp 159) (.tmp 165) rfl rfl rfl (hob11.alloc _) (Rd.fresh _ _ 1 1 _ rfl) ?_ ?_ ?_ ?_ ?_)
                      any_goals first | rfl | (unfold maxLen; omega) | omega | (intro u hu; simp at hu; subst hu; rfl) | exact ⟨rfl, rfl⟩ | (simp; omega)
                      intro v12 w12x o12 g12 bb12
                      have hob12 : w12x.ownsRow G 5 1 v12 ((nb + 1) + 1) (((b2 (N : Int) ++ [UInt8.ofNat 1]) ++ [by8 u]).map bv) := by
                        first
                          | (rw [List.map_append, List.map_cons, List.map_nil]; exact o12)
                          | (simpa [bv_by8] using o12)
                          | (have h256 : u / 256 % 256 = u / 256 := by omega
                             simpa [bv_by8, h256] using o12)
                      have hoc12 := own_grew g12 (hob11.alloc _) (hoc11.alloc _) (by decide)
                      have hbg12 := (hbg11.alloc hsz11 _).trans bb12
                      clear o12 g12 bb12 hob11 hoc11 hbg11
                      have hcu := keepG hbg12 hpu hcuE
                      have hcu0 := hcu
                      rw [show pu.add 0 = pu from rfl] at hcu0
                      have hsz12 := Nat.le_trans (Nat.le_of_eq hG.symm) hbg12.size
                      go_wp2_with (at_builtin; refine wpList_app bytesRow rfl (.tmp 169) (.tmp 176) rfl rfl rfl (hob12.alloc _) (Rd.fresh _ _ 1 1 _ rfl) ?_ ?_ ?_ ?_ ?_)
                      any_goals first | rfl | (unfold maxLen; omega) | omega | (intro u hu; simp at hu; subst hu; rfl) | exact ⟨rfl, rfl⟩ | (simp; omega)
                      intro v13 w13x o13 g13 bb13
                      have hob13 : w13x.ownsRow G 5 1 v13 (((nb + 1) + 1) + 1) ((((b2 (N : Int) ++ [UInt8.ofNat 1]) ++ [by8 u]) ++ [by8 (u / 256)]).map bv) := by
                        first
                          | (rw [List.map_append, List.map_cons, List.map_nil]; exact o13)
                          | (simpa [bv_by8] using o13)
                          | (have h256 : u / 256 % 256 = u / 256 := by omega
                             simpa [bv_by8, h256] using o13)
                      have hoc13 := own_grew g13 (hob12.alloc _) (hoc12.alloc _) (by decide)
                      have hbg13 := (hbg12.alloc hsz12 _).trans bb13
                      clear o13 g13 bb13 hob12 hoc12 hbg12
                      go_wp2
                      go_roundw
                      case rel => exact ⟨0 + 1, (p + 1), 1, (((nb + 1) + 1) + 1), nc, (((b2 (N : Int) ++ [UInt8.ofNat 1]) ++ [by8 u]) ++ [by8 (u / 256)]), ([] : List Int), by go_num, by go_num, by first | rfl | go_num, by omega, by omega, by omega, hob13, hoc13, by omega, by omega, hbg13, Lib.hid (.inr ⟨by omega, by have := St.first HWid.out hui hub; rw [HN.out] at this; simpa [ub] using this⟩)⟩
                      case measure => simp [Go.RowKit.intOf] <;> omega
              · have hi0b : ((i : Int) == 0) = false := by simp; omega
                have hi0c : (0 : Int) < (i : Int) := by omega
                have HST : Hid (St us zs i bl cs wv0) := Lib.hid (by
                  rcases HS.out with ⟨e1, -⟩ | ⟨-, e1⟩
                  · exact absurd e1 hi0
                  · exact e1)
                clear HS
                cases cv
                · rcases (show wv0 = 0 ∨ wv0 = 1 by omega) with rfl | rfl
                  · have hcu := keepG hbg0 hpu hcuE
                    have hsz0 := Nat.le_trans (Nat.le_of_eq hG.symm) hbg0.size
                    go_wp2_with (at_builtin; refine wpList_app bytesRow rfl (.tmp 159) (.tmp 165) rfl rfl rfl (hob0.alloc _) (Rd.fresh _ _ 1 1 _ rfl) ?_ ?_ ?_ ?_ ?_)
                    any_goals first | rfl | (unfold maxLen; omega) | omega | (intro u hu; simp at hu; subst hu; rfl) | exact ⟨rfl, rfl⟩ | (simp; omega)
                    intro v28 w28x o28 g28 bb28
                    have hob28 : w28x.ownsRow G 5 1 v28 (nb + 1) ((bl ++ [by8 u]).map bv) := by
                      first
                        | (rw [List.map_append, List.map_cons, List.map_nil]; exact o28)
                        | (simpa [bv_by8] using o28)
                        | (have h256 : u / 256 % 256 = u / 256 := by omega
                           simpa [bv_by8, h256] using o28)
                    have hoc28 := own_grew g28 (hob0.alloc _) (hoc0.alloc _) (by decide)
                    have hbg28 := (hbg0.alloc hsz0 _).trans bb28
                    clear o28 g28 bb28 hob0 hoc0 hbg0
                    go_wp2
                    go_roundw
                    case rel => exact ⟨i + 1, p, 0, (nb + 1), nc, (bl ++ [by8 u]), cs, by go_num, by go_num, by first | rfl | go_num, by omega, by omega, by omega, hob28, hoc28, by omega, by omega, hbg28, Lib.hid (.inr ⟨by omega, by have := HST.out.next HCT.out hui hub; simpa [ub] using this⟩)⟩
                    case measure => simp [Go.RowKit.intOf] <;> omega
                  · have hcu := keepG hbg0 hpu hcuE
                    have hsz0 := Nat.le_trans (Nat.le_of_eq hG.symm) hbg0.size
                    go_wp2_with (at_builtin; refine wpList_app bytesRow rfl (.tmp 159) (.tmp 165) rfl rfl rfl (hob0.alloc _) (Rd.fresh _ _ 1 1 _ rfl) ?_ ?_ ?_ ?_ ?_)
                    any_goals first | rfl | (unfold maxLen; omega) | omega | (intro u hu; simp at hu; subst hu; rfl) | exact ⟨rfl, rfl⟩ | (simp; omega)
                    intro v29 w29x o29 g29 bb29
                    have hob29 : w29x.ownsRow G 5 1 v29 (nb + 1) ((bl ++ [by8 u]).map bv) := by
                      first
                        | (rw [List.map_append, List.map_cons, List.map_nil]; exact o29)
                        | (simpa [bv_by8] using o29)
                        | (have h256 : u / 256 % 256 = u / 256 := by omega
                           simpa [bv_by8, h256] using o29)
                    have hoc29 := own_grew g29 (hob0.alloc _) (hoc0.alloc _) (by decide)
                    have hbg29 := (hbg0.alloc hsz0 _).trans bb29
                    clear o29 g29 bb29 hob0 hoc0 hbg0
                    have hcu := keepG hbg29 hpu hcuE
                    have hsz29 := Nat.le_trans (Nat.le_of_eq hG.symm) hbg29.size
                    go_wp2_with (at_builtin; refine wpList_app bytesRow rfl (.tmp 169) (.tmp 176) rfl rfl rfl (hob29.alloc _) (Rd.fresh _ _ 1 1 _ rfl) ?_ ?_ ?_ ?_ ?_)
                    any_goals first | rfl | (unfold maxLen; omega) | omega | (intro u hu; simp at hu; subst hu; rfl) | exact ⟨rfl, rfl⟩ | (simp; omega)
                    intro v30 w30x o30 g30 bb30
                    have hob30 : w30x.ownsRow G 5 1 v30 ((nb + 1) + 1) (((bl ++ [by8 u]) ++ [by8 (u / 256)]).map bv) := by
                      first
                        | (rw [List.map_append, List.map_cons, List.map_nil]; exact o30)
                        | (simpa [bv_by8] using o30)
                        | (have h256 : u / 256 % 256 = u / 256 := by omega
                           simpa [bv_by8, h256] using o30)
                    have hoc30 := own_grew g30 (hob29.alloc _) (hoc29.alloc _) (by decide)
                    have hbg30 := (hbg29.alloc hsz29 _).trans bb30
                    clear o30 g30 bb30 hob29 hoc29 hbg29
                    go_wp2
                    go_roundw
                    case rel => exact ⟨i + 1, p, 1, ((nb + 1) + 1), nc, ((bl ++ [by8 u]) ++ [by8 (u / 256)]), cs, by go_num, by go_num, by first | rfl | go_num, by omega, by omega, by omega, hob30, hoc30, by omega, by omega, hbg30, Lib.hid (.inr ⟨by omega, by have := HST.out.next HCT.out hui hub; simpa [ub] using this⟩)⟩
                    case measure => simp [Go.RowKit.intOf] <;> omega
                · clear HCT
                  obtain ⟨Ab, cb, rfl, -, -, -⟩ := own_form hob0
                  have hm1 : 0 < n2 := by omega
                  have hpm : p % n2 < n2 := Nat.mod_lt _ hm1
                  have hpm3 : p % n2 ≤ p := Nat.mod_le _ _
                  have hpm' : (p : Int).tmod (n2 : Int) = ((p % n2 : Nat) : Int) := by rw [Int.tmod_eq_emod_of_nonneg (by omega)]; omega
                  have hpm2 : (p : Int) % (n2 : Int) = ((p % n2 : Nat) : Int) := by omega
                  obtain ⟨pw, x, rfl, hpw, -, hcw⟩ := bcellAt (h2.belowMono hbw hB2) hpm
                  obtain ⟨X, hX⟩ : ∃ X : Int, ((x.toNat : Nat) : Int) = X := ⟨_, rfl⟩
                  have hX0 : 0 ≤ X := by omega
                  have hX1 : X < 256 := by have := x.toNat_lt; omega
                  rw [hX] at hcw
                  obtain ⟨wv, hwv⟩ : ∃ wv : Nat, x.toNat % 2 = wv := ⟨_, rfl⟩
                  have hwv1 : wv ≤ 1 := by omega
                  have hwx : X % 2 = (wv : Int) := by omega
                  have hwx2 : X.tmod 2 = (wv : Int) := by rw [Int.tmod_eq_emod_of_nonneg (by omega)]; omega
                  clear hwv hX
                  obtain ⟨pm, hpmm⟩ : ∃ pm, p % n2 = pm := ⟨_, rfl⟩
                  rw [hpmm] at hpm' hpm2 hcw hpm hpm3
                  clear hpmm
                  go_wp2
                  go_loopw [15, 19] (fun s15 s19 wx => ∃ k v : Nat, s19 = .int .i64 k ∧ s15 = .int .i64 v ∧ i ≤ k ∧ k ≤ N ∧ v ≤ 1 ∧ wx = wr ∧ Hid ((∀ j, i < j → j < k → cutB zs j = false) ∧ (v = 0 → ∀ k', i ≤ k' → k' < k → ∀ u, us[k']? = some u → u < 256))) (fun _ s19 _ => N - (Go.RowKit.intOf s19).toNat)
                  case atStart => refine ⟨i, wv, ?_, ?_, ?_, ?_, ?_, ?_, Lib.hid ⟨fun j h1 h2 => by omega, fun _ k' h1 h2 => by omega⟩⟩ <;> first | rfl | trivial | omega
                  case round =>
                    obtain ⟨k, v, rfl, rfl, hik, hkN, hv1, rfl, HW⟩ := hrel
                    by_cases hkN1 : k < N
                    · have hkN2 : (k : Int) < (N : Int) := by omega
                      obtain ⟨q, u2, hq, -, hu2, hcu2⟩ := icellAt (hru.belowMono hbg0 (Nat.le_refl _)) hkN1
                      injection hq with hq
                      subst hq
                      have HAt := Lib.hid (isAt_any (k := k) (c := c1) (h1.belowMono hbw hB1) (by omega))
                      by_cases hki : i < k
                      · have hki' : (i : Int) < (k : Int) := by omega
                        obtain ⟨ck, hck⟩ : ∃ ck, cutB zs k = ck := ⟨_, rfl⟩
                        have hAt2 := HAt.out
                        rw [hck] at hAt2
                        clear HAt
                        have HAt := Lib.hid hAt2
                        clear hAt2
                        cases ck
                        · have hcut' : ∀ j, i < j → j < k + 1 → cutB zs j = false := fun j h1 h2 => by
                            by_cases hj : j = k
                            · subst hj; exact hck
                            · exact HW.out.1 j h1 (by omega)
                          have HC := Lib.hid hcut'
                          clear hcut'
                          by_cases hbig : u2 > 255
                          · have hb1 : (255 : Int) < u2 := by omega
                            have HW2 : Hid ((∀ j, i < j → j < k + 1 → cutB zs j = false) ∧ ((1 : Nat) = 0 → ∀ k', i ≤ k' → k' < k + 1 → ∀ u, us[k']? = some u → u < 256)) := Lib.hid ⟨HC.out, fun h => by omega⟩
                            clear HW HC hu2
                            go_wp2_with fail
                            refine HAt.out.mono ?_
                            rintro e w5 ⟨rfl, rfl⟩
                            clear HAt
                            go_wp2
                            go_roundw
                            case rel => refine ⟨k + 1, 1, ?_, ?_, ?_, ?_, ?_, ?_, HW2⟩ <;> first | rfl | trivial | go_num | omega
                            case measure => simp [Go.RowKit.intOf] <;> omega
                          · have hb1 : ¬ (255 : Int) < u2 := by omega
                            have HW2 : Hid ((∀ j, i < j → j < k + 1 → cutB zs j = false) ∧ (v = 0 → ∀ k', i ≤ k' → k' < k + 1 → ∀ u, us[k']? = some u → u < 256)) := Lib.hid ⟨HC.out, fun h0 k' h1 h2 u hu => by
                              by_cases hk : k' = k
                              · subst hk
                                rw [hu2] at hu
                                injection hu with hu
                                omega
                              · exact HW.out.2 h0 k' h1 (by omega) u hu⟩
                            clear HW HC hu2
                            go_wp2_with fail
                            refine HAt.out.mono ?_
                            rintro e w5 ⟨rfl, rfl⟩
                            clear HAt
                            go_wp2
                            go_roundw
                            case rel => refine ⟨k + 1, v, ?_, ?_, ?_, ?_, ?_, ?_, HW2⟩ <;> first | rfl | trivial | go_num | omega
                            case measure => simp [Go.RowKit.intOf] <;> omega
                        · have HWid : Hid (Wid us zs i v) := Lib.hid ⟨hv1, fun h0 k' hk' hcc u hu => by
                            by_cases hkk : k' < k
                            · exact HW.out.2 h0 k' hk' hkk u hu
                            · have := hcc k hki (by omega)
                              rw [hck] at this
                              cases this⟩
                          clear HW hu2 hcu2 hck
                          go_wp2_with fail
                          refine HAt.out.mono ?_
                          rintro e w5 ⟨rfl, rfl⟩
                          clear HAt
                          have hw01 : v = 0 ∨ v = 1 := by omega
                          rcases hw01 with rfl | rfl
                          · have hsz0 := Nat.le_trans (Nat.le_of_eq hG.symm) hbg0.size
                            go_wp2_with (at_builtin; refine wpList_app intsRow rfl (.tmp 147) (.tmp 150) rfl rfl rfl (hoc0.alloc _) (Rd.fresh _ _ 1 1 _ rfl) ?_ ?_ ?_ ?_ ?_)
                            any_goals first | rfl | (unfold maxLen; omega) | omega | (intro u hu; simp at hu; subst hu; rfl) | exact ⟨rfl, rfl⟩ | (simp; omega)
                            intro v14 w14x o14 g14 bb14
                            have hoc14 : w14x.ownsRow G 3 1 v14 (nc + 1) ((cs ++ [(nb : Int)]).map ivr) := by
                              rw [List.map_append, List.map_cons, List.map_nil]
                              exact o14
                            have hob14 := own_grew g14 (hoc0.alloc _) (hob0.alloc _) (by decide)
                            have hbg14 := (hbg0.alloc hsz0 _).trans bb14
                            clear o14 g14 bb14 hob0 hoc0 hbg0
                            have hsz14 := Nat.le_trans (Nat.le_of_eq hG.symm) hbg14.size
                            go_wp2_with (at_builtin; refine wpList_app bytesRow rfl (.tmp 152) (.tmp 155) rfl rfl rfl (hob14.alloc _) (Rd.fresh _ _ 1 1 _ rfl) ?_ ?_ ?_ ?_ ?_)
                            any_goals first | rfl | (unfold maxLen; omega) | omega | (intro u hu; simp at hu; subst hu; rfl) | exact ⟨rfl, rfl⟩ | (simp; omega)
                            intro v15 w15x o15 g15 bb15
                            have hob15 : w15x.ownsRow G 5 1 v15 (nb + 1) ((bl ++ [UInt8.ofNat 0]).map bv) := by
                              first
                                | (rw [List.map_append, List.map_cons, List.map_nil]; exact o15)
                                | (simpa [bv_by8] using o15)
                                | (have h256 : u / 256 % 256 = u / 256 := by omega
                                   simpa [bv_by8, h256] using o15)
                            have hoc15 := own_grew g15 (hob14.alloc _) (hoc14.alloc _) (by decide)
                            have hbg15 := (hbg14.alloc hsz14 _).trans bb15
                            clear o15 g15 bb15 hob14 hoc14 hbg14
                            have hcu := keepG hbg15 hpu hcuE
                            have hsz15 := Nat.le_trans (Nat.le_of_eq hG.symm) hbg15.size
                            go_wp2_with (at_builtin; refine wpList_app bytesRow rfl (.tmp 159) (.tmp 165) rfl rfl rfl (hob15.alloc _) (Rd.fresh _ _ 1 1 _ rfl) ?_ ?_ ?_ ?_ ?_)
                            any_goals first | rfl | (unfold maxLen; omega) | omega | (intro u hu; simp at hu; subst hu; rfl) | exact ⟨rfl, rfl⟩ | (simp; omega)
                            intro v16 w16x o16 g16 bb16
                            have hob16 : w16x.ownsRow G 5 1 v16 ((nb + 1) + 1) (((bl ++ [UInt8.ofNat 0]) ++ [by8 u]).map bv) := by
                              first
                                | (rw [List.map_append, List.map_cons, List.map_nil]; exact o16)
                                | (simpa [bv_by8] using o16)
                                | (have h256 : u / 256 % 256 = u / 256 := by omega
                                   simpa [bv_by8, h256] using o16)
                            have hoc16 := own_grew g16 (hob15.alloc _) (hoc15.alloc _) (by decide)
                            have hbg16 := (hbg15.alloc hsz15 _).trans bb16
                            clear o16 g16 bb16 hob15 hoc15 hbg15
                            go_wp2
                            go_roundw
                            case rel => exact ⟨i + 1, (p + 1), 0, ((nb + 1) + 1), (nc + 1), ((bl ++ [UInt8.ofNat 0]) ++ [by8 u]), (cs ++ [(nb : Int)]), by go_num, by go_num, by first | rfl | go_num, by omega, by omega, by omega, hob16, hoc16, by omega, by omega, hbg16, Lib.hid (.inr ⟨by omega, by have := HST.out.cut HWid.out hui hub; rw [hlb] at this; simpa [ub] using this⟩)⟩
                            case measure => simp [Go.RowKit.intOf] <;> omega
                          · have hsz0 := Nat.le_trans (Nat.le_of_eq hG.symm) hbg0.size
                            go_wp2_with (at_builtin; refine wpList_app intsRow rfl (.tmp 147) (.tmp 150) rfl rfl rfl (hoc0.alloc _) (Rd.fresh _ _ 1 1 _ rfl) ?_ ?_ ?_ ?_ ?_)
                            any_goals first | rfl | (unfold maxLen; omega) | omega | (intro u hu; simp at hu; subst hu; rfl) | exact ⟨rfl, rfl⟩ | (simp; omega)
                            intro v17 w17x o17 g17 bb17
                            have hoc17 : w17x.ownsRow G 3 1 v17 (nc + 1) ((cs ++ [(nb : Int)]).map ivr) := by
                              rw [List.map_append, List.map_cons, List.map_nil]
                              exact o17
                            have hob17 := own_grew g17 (hoc0.alloc _) (hob0.alloc _) (by decide)
                            have hbg17 := (hbg0.alloc hsz0 _).trans bb17
                            clear o17 g17 bb17 hob0 hoc0 hbg0
                            have hsz17 := Nat.le_trans (Nat.le_of_eq hG.symm) hbg17.size
                            go_wp2_with (at_builtin; refine wpList_app bytesRow rfl (.tmp 152) (.tmp 155) rfl rfl rfl (hob17.alloc _) (Rd.fresh _ _ 1 1 _ rfl) ?_ ?_ ?_ ?_ ?_)
                            any_goals first | rfl | (unfold maxLen; omega) | omega | (intro u hu; simp at hu; subst hu; rfl) | exact ⟨rfl, rfl⟩ | (simp; omega)
                            intro v18 w18x o18 g18 bb18
                            have hob18 : w18x.ownsRow G 5 1 v18 (nb + 1) ((bl ++ [UInt8.ofNat 1]).map bv) := by
                              first
                                | (rw [List.map_append, List.map_cons, List.map_nil]; exact o18)
                                | (simpa [bv_by8] using o18)
                                | (have h256 : u / 256 % 256 = u / 256 := by omega
                                   simpa [bv_by8, h256] using o18)
                            have hoc18 := own_grew g18 (hob17.alloc _) (hoc17.alloc _) (by decide)
                            have hbg18 := (hbg17.alloc hsz17 _).trans bb18
                            clear o18 g18 bb18 hob17 hoc17 hbg17
                            have hcu := keepG hbg18 hpu hcuE
                            have hsz18 := Nat.le_trans (Nat.le_of_eq hG.symm) hbg18.size
                            go_wp2_with (at_builtin; refine wpList_app bytesRow rfl (.tmp 159) (.tmp 165) rfl rfl rfl (hob18.alloc _) (Rd.fresh _ _ 1 1 _ rfl) ?_ ?_ ?_ ?_ ?_)
                            any_goals first | rfl | (unfold maxLen; omega) | omega | (intro u hu; simp at hu; subst hu; rfl) | exact ⟨rfl, rfl⟩ | (simp; omega)
                            intro v19 w19x o19 g19 bb19
                            have hob19 : w19x.ownsRow G 5 1 v19 ((nb + 1) + 1) (((bl ++ [UInt8.ofNat 1]) ++ [by8 u]).map bv) := by
                              first
                                | (rw [List.map_append, List.map_cons, List.map_nil]; exact o19)
                                | (simpa [bv_by8] using o19)
                                | (have h256 : u / 256 % 256 = u / 256 := by omega
                                   simpa [bv_by8, h256] using o19)
                            have hoc19 := own_grew g19 (hob18.alloc _) (hoc18.alloc _) (by decide)
                            have hbg19 := (hbg18.alloc hsz18 _).trans bb19
                            clear o19 g19 bb19 hob18 hoc18 hbg18
                            have hcu := keepG hbg19 hpu hcuE
                            have hsz19 := Nat.le_trans (Nat.le_of_eq hG.symm) hbg19.size
                            go_wp2_with (at_builtin; refine wpList_app bytesRow rfl (.tmp 169) (.tmp 176) rfl rfl rfl (hob19.alloc _) (Rd.fresh _ _ 1 1 _ rfl) ?_ ?_ ?_ ?_ ?_)
                            any_goals first | rfl | (unfold maxLen; omega) | omega | (intro u hu; simp at hu; subst hu; rfl) | exact ⟨rfl, rfl⟩ | (simp; omega)
                            intro v20 w20x o20 g20 bb20
                            have hob20 : w20x.ownsRow G 5 1 v20 (((nb + 1) + 1) + 1) ((((bl ++ [UInt8.ofNat 1]) ++ [by8 u]) ++ [by8 (u / 256)]).map bv) := by
                              first
                                | (rw [List.map_append, List.map_cons, List.map_nil]; exact o20)
                                | (simpa [bv_by8] using o20)
                                | (have h256 : u / 256 % 256 = u / 256 := by omega
                                   simpa [bv_by8, h256] using o20)
                            have hoc20 := own_grew g20 (hob19.alloc _) (hoc19.alloc _) (by decide)
                            have hbg20 := (hbg19.alloc hsz19 _).trans bb20
                            clear o20 g20 bb20 hob19 hoc19 hbg19
                            go_wp2
                            go_roundw
                            case rel => exact ⟨i + 1, (p + 1), 1, (((nb + 1) + 1) + 1), (nc + 1), (((bl ++ [UInt8.ofNat 1]) ++ [by8 u]) ++ [by8 (u / 256)]), (cs ++ [(nb : Int)]), by go_num, by go_num, by first | rfl | go_num, by omega, by omega, by omega, hob20, hoc20, by omega, by omega, hbg20, Lib.hid (.inr ⟨by omega, by have := HST.out.cut HWid.out hui hub; rw [hlb] at this; simpa [ub] using this⟩)⟩
                            case measure => simp [Go.RowKit.intOf] <;> omega
                      · have hkie : k = i := by omega
                        have hki' : ¬ (i : Int) < (k : Int) := by omega
                        have HC : Hid (∀ j, i < j → j < k + 1 → cutB zs j = false) := Lib.hid fun j h1 h2 => by omega
                        clear HAt hkie
                        by_cases hbig : u2 > 255
                        · have hb1 : (255 : Int) < u2 := by omega
                          have HW2 : Hid ((∀ j, i < j → j < k + 1 → cutB zs j = false) ∧ ((1 : Nat) = 0 → ∀ k', i ≤ k' → k' < k + 1 → ∀ u, us[k']? = some u → u < 256)) := Lib.hid ⟨HC.out, fun h => by omega⟩
                          clear HW HC hu2

                          go_wp2
                          go_roundw
                          case rel => refine ⟨k + 1, 1, ?_, ?_, ?_, ?_, ?_, ?_, HW2⟩ <;> first | rfl | trivial | go_num | omega
                          case measure => simp [Go.RowKit.intOf] <;> omega
                        · have hb1 : ¬ (255 : Int) < u2 := by omega
                          have HW2 : Hid ((∀ j, i < j → j < k + 1 → cutB zs j = false) ∧ (v = 0 → ∀ k', i ≤ k' → k' < k + 1 → ∀ u, us[k']? = some u → u < 256)) := Lib.hid ⟨HC.out, fun h0 k' h1 h2 u hu => by
                            by_cases hk : k' = k
                            · subst hk
                              rw [hu2] at hu
                              injection hu with hu
                              omega
                            · exact HW.out.2 h0 k' h1 (by omega) u hu⟩
                          clear HW HC hu2

                          go_wp2
                          go_roundw
                          case rel => refine ⟨k + 1, v, ?_, ?_, ?_, ?_, ?_, ?_, HW2⟩ <;> first | rfl | trivial | go_num | omega
                          case measure => simp [Go.RowKit.intOf] <;> omega
                    · have hkN2 : ¬ (k : Int) < (N : Int) := by omega
                      have HWid : Hid (Wid us zs i v) := Lib.hid ⟨hv1, fun h0 k' hk' hcc u hu => HW.out.2 h0 k' hk' (by have := (List.getElem?_eq_some_iff.1 hu).1; have := HN.out; omega) u hu⟩
                      clear HW
                      have hw01 : v = 0 ∨ v = 1 := by omega
                      rcases hw01 with rfl | rfl
                      · have hsz0 := Nat.le_trans (Nat.le_of_eq hG.symm) hbg0.size
                        go_wp2_with (at_builtin; refine wpList_app intsRow rfl (.tmp 147) (.tmp 150) rfl rfl rfl (hoc0.alloc _) (Rd.fresh _ _ 1 1 _ rfl) ?_ ?_ ?_ ?_ ?_)
                        any_goals first | rfl | (unfold maxLen; omega) | omega | (intro u hu; simp at hu; subst hu; rfl) | exact ⟨rfl, rfl⟩ | (simp; omega)
                        intro v21 w21x o21 g21 bb21
                        have hoc21 : w21x.ownsRow G 3 1 v21 (nc + 1) ((cs ++ [(nb : Int)]).map ivr) := by
                          rw [List.map_append, List.map_cons, List.map_nil]
                          exact o21
                        have hob21 := own_grew g21 (hoc0.alloc _) (hob0.alloc _) (by decide)
                        have hbg21 := (hbg0.alloc hsz0 _).trans bb21
                        clear o21 g21 bb21 hob0 hoc0 hbg0
                        have hsz21 := Nat.le_trans (Nat.le_of_eq hG.symm) hbg21.size
                        go_wp2_with (at_builtin; refine wpList_app bytesRow rfl (.tmp 152) (.tmp 155) rfl rfl rfl (hob21.alloc _) (Rd.fresh _ _ 1 1 _ rfl) ?_ ?_ ?_ ?_ ?_)
                        any_goals first | rfl | (unfold maxLen; omega) | omega | (intro u hu; simp at hu; subst hu; rfl) | exact ⟨rfl, rfl⟩ | (simp; omega)
                        intro v22 w22x o22 g22 bb22
                        have hob22 : w22x.ownsRow G 5 1 v22 (nb + 1) ((bl ++ [UInt8.ofNat 0]).map bv) := by
                          first
                            | (rw [List.map_append, List.map_cons, List.map_nil]; exact o22)
                            | (simpa [bv_by8] using o22)
                            | (have h256 : u / 256 % 256 = u / 256 := by omega
                               simpa [bv_by8, h256] using o22)
                        have hoc22 := own_grew g22 (hob21.alloc _) (hoc21.alloc _) (by decide)
                        have hbg22 := (hbg21.alloc hsz21 _).trans bb22
                        clear o22 g22 bb22 hob21 hoc21 hbg21
                        have hcu := keepG hbg22 hpu hcuE
                        have hsz22 := Nat.le_trans (Nat.le_of_eq hG.symm) hbg22.size
                        go_wp2_with (at_builtin; refine wpList_app bytesRow rfl (.tmp 159) (.tmp 165) rfl rfl rfl (hob22.alloc _) (Rd.fresh _ _ 1 1 _ rfl) ?_ ?_ ?_ ?_ ?_)
                        any_goals first | rfl | (unfold maxLen; omega) | omega | (intro u hu; simp at hu; subst hu; rfl) | exact ⟨rfl, rfl⟩ | (simp; omega)
                        intro v23 w23x o23 g23 bb23
                        have hob23 : w23x.ownsRow G 5 1 v23 ((nb + 1) + 1) (((bl ++ [UInt8.ofNat 0]) ++ [by8 u]).map bv) := by
                          first
                            | (rw [List.map_append, List.map_cons, List.map_nil]; exact o23)
                            | (simpa [bv_by8] using o23)
                            | (have h256 : u / 256 % 256 = u / 256 := by omega
                               simpa [bv_by8, h256] using o23)
                        have hoc23 := own_grew g23 (hob22.alloc _) (hoc22.alloc _) (by decide)
                        have hbg23 := (hbg22.alloc hsz22 _).trans bb23
                        clear o23 g23 bb23 hob22 hoc22 hbg22
                        go_wp2
                        go_roundw
                        case rel => exact ⟨i + 1, (p + 1), 0, ((nb + 1) + 1), (nc + 1), ((bl ++ [UInt8.ofNat 0]) ++ [by8 u]), (cs ++ [(nb : Int)]), by go_num, by go_num, by first | rfl | go_num, by omega, by omega, by omega, hob23, hoc23, by omega, by omega, hbg23, Lib.hid (.inr ⟨by omega, by have := HST.out.cut HWid.out hui hub; rw [hlb] at this; simpa [ub] using this⟩)⟩
                        case measure => simp [Go.RowKit.intOf] <;> omega
                      · have hsz0 := Nat.le_trans (Nat.le_of_eq hG.symm) hbg0.size
                        go_wp2_with (at_builtin; refine wpList_app intsRow rfl (.tmp 147) (.tmp 150) rfl rfl rfl (hoc0.alloc _) (Rd.fresh _ _ 1 1 _ rfl) ?_ ?_ ?_ ?_ ?_)
                        any_goals first | rfl | (unfold maxLen; omega) | omega | (intro u hu; simp at hu; subst hu; rfl) | exact ⟨rfl, rfl⟩ | (simp; omega)
                        intro v24 w24x o24 g24 bb24
                        have hoc24 : w24x.ownsRow G 3 1 v24 (nc + 1) ((cs ++ [(nb : Int)]).map ivr) := by
                          rw [List.map_append, List.map_cons, List.map_nil]
                          exact o24
                        have hob24 := own_grew g24 (hoc0.alloc _) (hob0.alloc _) (by decide)
                        have hbg24 := (hbg0.alloc hsz0 _).trans bb24
                        clear o24 g24 bb24 hob0 hoc0 hbg0
                        have hsz24 := Nat.le_trans (Nat.le_of_eq hG.symm) hbg24.size
                        go_wp2_with (at_builtin; refine wpList_app bytesRow rfl (.tmp 152) (.tmp 155) rfl rfl rfl (hob24.alloc _) (Rd.fresh _ _ 1 1 _ rfl) ?_ ?_ ?_ ?_ ?_)
                        any_goals first | rfl | (unfold maxLen; omega) | omega | (intro u hu; simp at hu; subst hu; rfl) | exact ⟨rfl, rfl⟩ | (simp; omega)
                        intro v25 w25x o25 g25 bb25
                        have hob25 : w25x.ownsRow G 5 1 v25 (nb + 1) ((bl ++ [UInt8.ofNat 1]).map bv) := by
                          first
                            | (rw [List.map_append, List.map_cons, List.map_nil]; exact o25)
                            | (simpa [bv_by8] using o25)
                            | (have h256 : u / 256 % 256 = u / 256 := by omega
                               simpa [bv_by8, h256] using o25)
                        have hoc25 := own_grew g25 (hob24.alloc _) (hoc24.alloc _) (by decide)
                        have hbg25 := (hbg24.alloc hsz24 _).trans bb25
                        clear o25 g25 bb25 hob24 hoc24 hbg24
                        have hcu := keepG hbg25 hpu hcuE
                        have hsz25 := Nat.le_trans (Nat.le_of_eq hG.symm) hbg25.size
                        go_wp2_with (at_builtin; refine wpList_app bytesRow rfl (.tmp 159) (.tmp 165) rfl rfl rfl (hob25.alloc _) (Rd.fresh _ _ 1 1 _ rfl) ?_ ?_ ?_ ?_ ?_)
                        any_goals first | rfl | (unfold maxLen; omega) | omega | (intro u hu; simp at hu; subst hu; rfl) | exact ⟨rfl, rfl⟩ | (simp; omega)
                        intro v26 w26x o26 g26 bb26
                        have hob26 : w26x.ownsRow G 5 1 v26 ((nb + 1) + 1) (((bl ++ [UInt8.ofNat 1]) ++ [by8 u]).map bv) := by
                          first
                            | (rw [List.map_append, List.map_cons, List.map_nil]; exact o26)
                            | (simpa [bv_by8] using o26)
                            | (have h256 : u / 256 % 256 = u / 256 := by omega
                               simpa [bv_by8, h256] using o26)
                        have hoc26 := own_grew g26 (hob25.alloc _) (hoc25.alloc _) (by decide)
                        have hbg26 := (hbg25.alloc hsz25 _).trans bb26
                        clear o26 g26 bb26 hob25 hoc25 hbg25
                        have hcu := keepG hbg26 hpu hcuE
                        have hsz26 := Nat.le_trans (Nat.le_of_eq hG.symm) hbg26.size
                        go_wp2_with (at_builtin; refine wpList_app bytesRow rfl (.tmp 169) (.tmp 176) rfl rfl rfl (hob26.alloc _) (Rd.fresh _ _ 1 1 _ rfl) ?_ ?_ ?_ ?_ ?_)
                        any_goals first | rfl | (unfold maxLen; omega) | omega | (intro u hu; simp at hu; subst hu; rfl) | exact ⟨rfl, rfl⟩ | (simp; omega)
                        intro v27 w27x o27 g27 bb27
                        have hob27 : w27x.ownsRow G 5 1 v27 (((nb + 1) + 1) + 1) ((((bl ++ [UInt8.ofNat 1]) ++ [by8 u]) ++ [by8 (u / 256)]).map bv) := by
                          first
                            | (rw [List.map_append, List.map_cons, List.map_nil]; exact o27)
                            | (simpa [bv_by8] using o27)
                            | (have h256 : u / 256 % 256 = u / 256 := by omega
                               simpa [bv_by8, h256] using o27)
                        have hoc27 := own_grew g27 (hob26.alloc _) (hoc26.alloc _) (by decide)
                        have hbg27 := (hbg26.alloc hsz26 _).trans bb27
                        clear o27 g27 bb27 hob26 hoc26 hbg26
                        go_wp2
                        go_roundw
                        case rel => exact ⟨i + 1, (p + 1), 1, (((nb + 1) + 1) + 1), (nc + 1), (((bl ++ [UInt8.ofNat 1]) ++ [by8 u]) ++ [by8 (u / 256)]), (cs ++ [(nb : Int)]), by go_num, by go_num, by first | rfl | go_num, by omega, by omega, by omega, hob27, hoc27, by omega, by omega, hbg27, Lib.hid (.inr ⟨by omega, by have := HST.out.cut HWid.out hui hub; rw [hlb] at this; simpa [ub] using this⟩)⟩
                        case measure => simp [Go.RowKit.intOf] <;> omega
end Go.Proofs.YtgepipapppdhfaaDoor
