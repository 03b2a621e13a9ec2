/- cashbookref7.units, cashbookref7.Units by their contracts. Condition: the text is not too long; the runes read as such. -/
import Derived.Test.YtllcecnkbndokaaGreatDoorRunes
import Derived.Test.YtllcecnkbndokaaGreatDoorCur
namespace Go.Proofs.YtllcecnkbndokaaGreatDoor
open Go.RowKit Go.Lib

theorem i64_or_nat (a b : Nat) (ha : a % 1024 = 0) (hb : b < 1024) (h : a + b < 2147483648) : bits .or .i64 (a : Int) (b : Int) = ((a + b : Nat) : Int) := by
  show IntKind.i64.wrap ((BitVec.ofInt 64 (a : Int) ||| BitVec.ofInt 64 (b : Int)).toNat : Int) = _
  rw [BitVec.toNat_or, BitVec.ofInt_natCast, BitVec.ofInt_natCast, BitVec.toNat_ofNat, BitVec.toNat_ofNat, Nat.mod_eq_of_lt (by omega), Nat.mod_eq_of_lt (by omega), nat_join 10 a b ha hb]
  exact IntWalk.i64_in _ (by omega)
theorem i64_or (a b : Int) (h0 : 0 ≤ a) (ha : a % 1024 = 0) (h1 : 0 ≤ b) (hb : b < 1024) (h : a + b < 2147483648) : bits .or .i64 a b = a + b := by
  have := i64_or_nat a.toNat b.toNat (by omega) (by omega) (by omega)
  rw [Int.toNat_of_nonneg h0, Int.toNat_of_nonneg h1] at this
  rw [this]
  omega
theorem i64_and (a : Int) (h0 : 0 ≤ a) (h : a < 2147483648) : bits .and .i64 a 1023 = a % 1024 := by
  obtain ⟨n, rfl⟩ : ∃ n : Nat, a = n := ⟨a.toNat, by omega⟩
  show IntKind.i64.wrap ((BitVec.ofInt 64 (n : Int) &&& BitVec.ofInt 64 (1023 : Int)).toNat : Int) = _
  rw [BitVec.toNat_and, BitVec.ofInt_natCast, BitVec.toNat_ofNat, Nat.mod_eq_of_lt (by omega), show (BitVec.ofInt 64 (1023 : Int)).toNat = 1023 by decide, nat_mask10]
  rw [IntWalk.i64_in _ (by omega)]
  omega

theorem uni_big {r : Int} (h : ¬ r < 65536) : uni r = [55296 + (r - 65536) / 1024, 56320 + (r - 65536) % 1024] := by
  unfold uni
  rw [if_neg h, show (r - 65536) % 1024 = r % 1024 by omega]

set_option maxHeartbeats 8000000 in
set_option maxRecDepth 100000 in
theorem bunits_any {w : World} {B n c : Nat} {A : Option Addr} {rs : List Int} (h : Rd w B 1 A n (rs.map ivr)) (hB : B ≤ w.heap.size) (hn : n ≤ 100000000) (hr : ∀ r ∈ rs, 0 ≤ r ∧ r ≤ 1114111) :
    Calls Tryz.prog 47 #[.slice A n c] w fun e w' => ∃ v n', e = .returned v ∧ w'.ownsRow w.heap.size 3 1 v n' ((rs.flatMap uni).map ivr) ∧ n' ≤ 2 * n ∧ Below w.heap.size w w' := by
  have hlen : rs.length = n := by have := h.len; simp at this; exact this
  go_enter Tryz.func47, Tryz.ntmps47
  go_wp2
  go_loopw [3, 4] (fun s3 s4 wr => ∃ (i q : Nat) (acc : List Int), s4 = .int .i64 i ∧ wr.ownsRow w.heap.size 3 1 s3 q (acc.map ivr) ∧ i ≤ n ∧ q ≤ 2 * i ∧ Below w.heap.size w wr ∧ Hid (acc ++ (rs.drop i).flatMap uni = rs.flatMap uni)) (fun _ s4 _ => n - (Go.RowKit.intOf s4).toNat)
  case atStart => exact ⟨0, 0, [], rfl, World.ownsRow_nil _ _ _ _, by omega, by omega, Below.refl _ _, Lib.hid (by simp)⟩
  case round =>
    obtain ⟨i, q, acc, rfl, ho, hi, hq, hbel, HS⟩ := hrel
    have hsz := hbel.size
    by_cases hin : i < n
    · have hin' : (i : Int) < (n : Int) := by omega
      obtain ⟨a, u, rfl, hab, hu, hcell⟩ := (h.belowMono hbel hB).cell hin
      obtain ⟨r, hri, rfl⟩ : ∃ r, rs[i]? = some r ∧ u = ivr r := by
        rw [List.getElem?_map, List.getElem?_eq_getElem (by omega)] at hu
        exact ⟨_, List.getElem?_eq_getElem (by omega), by simpa using hu.symm⟩
      have hrb := hr r (List.mem_of_getElem? hri)
      have HD := Lib.hid (show rs.drop i = r :: rs.drop (i + 1) by
        rw [List.drop_eq_getElem_cons (by omega)]
        rw [List.getElem?_eq_getElem (by omega)] at hri
        injection hri with hri
        rw [hri])
      unfold ivr at hcell
      clear hu hri
      by_cases hbig : r < 65536
      · have HS2 : Hid ((acc ++ [r]) ++ (rs.drop (i + 1)).flatMap uni = rs.flatMap uni) := Lib.hid (by
          have := HS.out
          rw [HD.out, List.flatMap_cons, show uni r = [r] by unfold uni; rw [if_pos hbig]] at this
          simpa using this)
        clear HS HD
        go_wp2_with (at_builtin; refine wpList_app intsRow rfl (.tmp 17) (.tmp 22) rfl rfl rfl (ho.alloc _) (Rd.fresh _ _ 1 1 _ rfl) ?_ ?_ ?_ ?_ ?_)
        any_goals first | rfl | (unfold maxLen; omega) | omega | (intro u hu; simp at hu; subst hu; rfl) | (simp; omega)
        intro v9 w9 o9 g9 b9
        have hbel9 := (hbel.alloc hbel.size _).trans b9
        have o9' : w9.ownsRow w.heap.size 3 1 v9 (q + 1) ((acc ++ [r]).map ivr) := by
          rw [List.map_append, List.map_cons, List.map_nil]
          exact o9
        clear o9 g9 b9 ho hbel hcell
        go_wp2
        go_roundw
        case rel => exact ⟨i + 1, q + 1, _, by go_num, o9', by omega, by omega, hbel9, HS2⟩
        case measure => simp [Go.RowKit.intOf]; omega
      · have HS2 : Hid ((acc ++ [55296 + (r - 65536) / 1024, 56320 + (r - 65536) % 1024]) ++ (rs.drop (i + 1)).flatMap uni = rs.flatMap uni) := Lib.hid (by
          have := HS.out
          rw [HD.out, List.flatMap_cons, uni_big hbig] at this
          simpa using this)
        have f1 : bits .or .i64 55296 ((r - 65536) / 1024) = 55296 + (r - 65536) / 1024 := i64_or _ _ (by omega) (by omega) (by omega) (by omega) (by omega)
        have f2 : bits .and .i64 (r - 65536) 1023 = (r - 65536) % 1024 := i64_and _ (by omega) (by omega)
        have f3 : bits .or .i64 56320 ((r - 65536) % 1024) = 56320 + (r - 65536) % 1024 := i64_or _ _ (by omega) (by omega) (by omega) (by omega) (by omega)
        obtain ⟨p1, hp1⟩ : ∃ p1, 55296 + (r - 65536) / 1024 = p1 := ⟨_, rfl⟩
        obtain ⟨p2, hp2⟩ : ∃ p2, 56320 + (r - 65536) % 1024 = p2 := ⟨_, rfl⟩
        rw [hp1] at f1 HS2
        rw [hp2] at f3 HS2
        clear HS HD hp1 hp2
        go_wp2_with (at_builtin; refine wpList_app intsRow rfl (.tmp 29) (.tmp 36) rfl rfl rfl (ho.alloc _) (Rd.fresh _ _ 1 2 _ rfl) ?_ ?_ ?_ ?_ ?_)
        any_goals first | rfl | (unfold maxLen; omega) | omega | (intro u hu; simp at hu; rcases hu with rfl | rfl <;> rfl) | exact ⟨rfl, rfl⟩ | (simp; omega)
        intro v9 w9 o9 g9 b9
        have hbel9 := (hbel.alloc hbel.size _).trans b9
        have o9' : w9.ownsRow w.heap.size 3 1 v9 (q + 2) ((acc ++ [p1, p2]).map ivr) := by
          rw [List.map_append, List.map_cons, List.map_cons, List.map_nil]
          exact o9
        clear o9 g9 b9 ho hbel hcell f1 f2 f3
        go_wp2
        go_roundw
        case rel => exact ⟨i + 1, q + 2, _, by go_num, o9', by omega, by omega, hbel9, HS2⟩
        case measure => simp [Go.RowKit.intOf]; omega
    · have hin' : ¬ (i : Int) < (n : Int) := by omega
      have hS := HS.out
      rw [List.drop_eq_nil_of_le (by omega), List.flatMap_nil, List.append_nil] at hS
      subst hS
      clear HS
      go_wp2
      go_ret
      exact ⟨_, rfl, q, ho, by omega, hbel⟩

theorem rns_len2 (l : List UInt8) : (rns l).length ≤ l.length := rns_len ⟨l.toArray⟩ _ l (Nat.le_refl _)

set_option maxHeartbeats 8000000 in
set_option maxRecDepth 100000 in
theorem bUnits_any {w : World} (s : ByteArray) (hs : s.size ≤ 10000000) :
    Calls Tryz.prog 32 #[.string s] w fun e w' => e = .returned (.tuple #[.int .i64 (uV s.data.toList), .int .i64 (uE s.data.toList)]) ∧ Below w.heap.size w w' := by
  have HR := Lib.hid (bRunes_any (w := w) s (by omega))
  obtain ⟨l, hl⟩ : ∃ l, s.data.toList = l := ⟨_, rfl⟩
  have hll : l.length ≤ 10000000 := by rw [← hl]; simpa using hs
  rw [hl] at HR
  rw [hl]
  clear hl
  cases hv : validD l
  · have e1 : uE l = 2 := by unfold uE; rw [if_pos hv]
    have e2 : uV l = 0 := by unfold uV; rw [e1]; rfl
    rw [e1, e2]
    clear e1 e2
    go_enter Tryz.func32, Tryz.ntmps32
    go_wp2_with fail
    refine HR.out.mono ?_
    rintro e w1 ⟨hg, hb1⟩
    rcases hg with ⟨h1, -⟩ | ⟨-, rfl⟩
    · rw [hv] at h1; cases h1
    · clear HR hv
      go_wp2
      go_ret2
      exact ⟨rfl, hb1⟩
  · have e1 : uE l = if 1000 < unN l then 4 else 0 := by unfold uE; rw [if_neg (by rw [hv]; decide)]
    have e2 : uV l = if 1000 < unN l then 0 else (unN l : Int) := by
      unfold uV; rw [e1]
      by_cases h : 1000 < unN l
      · rw [if_pos h, if_pos h]; rfl
      · rw [if_neg h, if_neg h]; rfl
    rw [e1, e2]
    have hok := runes_ok hv
    have hln := rns_len2 l
    have HU : Hid (unN l = ((rns l).flatMap uni).length) := Lib.hid rfl
    clear e1 e2
    by_cases hN : 1000 < unN l
    · rw [if_pos hN, if_pos hN]
      have hN' : (1000 : Int) < (unN l : Int) := by omega
      clear hN
      generalize unN l = N at *
      go_enter Tryz.func32, Tryz.ntmps32
      go_wp2_with fail
      refine HR.out.mono ?_
      rintro e w1 ⟨hg, hb1⟩
      clear HR
      rcases hg with ⟨-, v, n, rfl, ho⟩ | ⟨h1, -⟩
      · obtain ⟨A1, c1, rfl, hnc, -, hr⟩ := own_form ho
        have hn1 : (rns l).length = n := by have := hr.len; simp at this; exact this
        clear ho hv
        go_wp2_with fail
        refine (bunits_any (c := c1) hr (Nat.le_refl _) (by omega) (fun r hm => ⟨(hok r hm).1, (hok r hm).2.1⟩)).mono ?_
        rintro e w2 ⟨v2, n2, rfl, ho2, -, hb2⟩
        obtain ⟨A2, c2, rfl, -, -, hr2⟩ := own_form ho2
        have hb := hb1.trans (hb2.mono hb1.size)
        obtain rfl : n2 = N := by
          have := hr2.len
          rw [List.length_map, Nat.mul_one] at this
          rw [HU.out]
          exact this.symm
        clear ho2 hr2 hr hb1 hb2 HU hok hln
        go_wp2
        go_ret2
        exact ⟨rfl, hb⟩
      · rw [hv] at h1; cases h1
    · rw [if_neg hN, if_neg hN]
      have hN' : ¬ (1000 : Int) < (unN l : Int) := by omega
      clear hN
      generalize unN l = N at *
      go_enter Tryz.func32, Tryz.ntmps32
      go_wp2_with fail
      refine HR.out.mono ?_
      rintro e w1 ⟨hg, hb1⟩
      clear HR
      rcases hg with ⟨-, v, n, rfl, ho⟩ | ⟨h1, -⟩
      · obtain ⟨A1, c1, rfl, hnc, -, hr⟩ := own_form ho
        have hn1 : (rns l).length = n := by have := hr.len; simp at this; exact this
        clear ho hv
        go_wp2_with fail
        refine (bunits_any (c := c1) hr (Nat.le_refl _) (by omega) (fun r hm => ⟨(hok r hm).1, (hok r hm).2.1⟩)).mono ?_
        rintro e w2 ⟨v2, n2, rfl, ho2, -, hb2⟩
        obtain ⟨A2, c2, rfl, -, -, hr2⟩ := own_form ho2
        have hb := hb1.trans (hb2.mono hb1.size)
        obtain rfl : n2 = N := by
          have := hr2.len
          rw [List.length_map, Nat.mul_one] at this
          rw [HU.out]
          exact this.symm
        clear ho2 hr2 hr hb1 hb2 HU hok hln
        go_wp2
        go_ret2
        exact ⟨rfl, hb⟩
      · rw [hv] at h1; cases h1
end Go.Proofs.YtllcecnkbndokaaGreatDoor
