/- The reference's plus, minus by their contracts. Condition: the digits read as such, and are no more than a thousand. -/
import Derived.Test.YtgepipapppdhfaaGreatDoorRow2
namespace Go.Proofs.YtgepipapppdhfaaGreatDoor
open Go.RowKit

theorem getD_out {a : List Nat} {i n : Nat} (hn : n = a.length) (h : ¬ i < n) : a.getD i 0 = 0 := by
  simp [List.getD, List.getElem?_eq_none (show a.length ≤ i by omega)]
theorem digs_snoc {l : List Nat} {d : Nat} (h : Digs l) (hd : d < 10) : Digs (l ++ [d]) := h.append fun x hx => by
  obtain rfl := List.mem_singleton.1 hx
  exact hd

set_option maxHeartbeats 1000000 in
theorem plus_any {w : World} {n c n' c' : Nat} {A A' : Option Addr} {a b : List Nat} (ha : Rd w w.heap.size 1 A n (dcs a)) (hb : Rd w w.heap.size 1 A' n' (dcs b)) (da : Digs a) (db : Digs b) (hn : n ≤ 1000) (hn' : n' ≤ 1000) :
    Calls Tryz.prog 44 #[.slice A n c, .slice A' n' c'] w fun e w' => ∃ v k L, e = .returned v ∧ w'.ownsRow w.heap.size 3 1 v k (dcs L) ∧ Digs L ∧ dval L = dval a + dval b ∧ k ≤ 1001 ∧ Below w.heap.size w w' := by
  have HA := Lib.hid ha.dlen
  have HB := Lib.hid hb.dlen
  obtain ⟨M, hM1, hM2, hM3⟩ : ∃ M, n ≤ M ∧ n' ≤ M ∧ M ≤ 1000 := ⟨1000, hn, hn', Nat.le_refl _⟩
  go_enter Tryz.func44, Tryz.ntmps44
  go_wp2
  go_loopw [5, 6, 7] (fun out cc ii wr => ∃ (i q : Nat) (v : Value) (L : List Nat), out = v ∧ cc = .int .i64 q ∧ ii = .int .i64 i ∧ i ≤ M + 1 ∧ q ≤ 1 ∧ wr.ownsRow w.heap.size 3 1 v i (dcs L) ∧ Below w.heap.size w wr ∧ Hid (dval L + 10 ^ i * q = dval (a.take i) + dval (b.take i) ∧ Digs L ∧ (i = M + 1 → q = 0))) (fun _ _ ii _ => M + 1 - (intOf ii).toNat)
  case atStart => exact ⟨0, 0, _, [], rfl, rfl, rfl, by omega, by omega, World.ownsRow_nil _ _ _ _, Below.refl _ _, Lib.hid ⟨by simp [dval], (fun d hd => by cases hd), fun _ => rfl⟩⟩
  case round =>
    obtain ⟨i, q, v, L, rfl, rfl, rfl, hiM, hq1, ho, hbel, HF⟩ := hrel
    have hsz := hbel.size
    by_cases hi : i < n
    · by_cases hj : i < n'
      · have hx9 := getD_digit da i
        have hy9 := getD_digit db i
        have HP := Lib.hid (plus_step HF.out.1 (own_len ho).symm)
        obtain ⟨p, rfl, hp, hc⟩ := (ha.belowMono hbel (Nat.le_refl _)).digAt hi
        obtain ⟨p2, rfl, hp2, hc2⟩ := (hb.belowMono hbel (Nat.le_refl _)).digAt hj
        generalize a.getD i 0 = x at *
        generalize b.getD i 0 = y at *
        have hdg := Lib.hid (digs_snoc HF.out.2.1 (Nat.mod_lt (q + x + y) (show 0 < 10 by omega)))
        have HM := Lib.hid (show i + 1 = M + 1 → (q + x + y) / 10 = 0 by intro h; have := HF.out.2.2; omega)
        have hTq : (q + x + y) / 10 ≤ 1 := by omega
        go_wp2_with (at_builtin; refine wpList_app rowInts rfl (.tmp 44) (.tmp 47) rfl rfl rfl (ho.alloc _) (Rd.fresh _ _ 1 1 _ rfl) ?_ ?_ ?_ ?_ ?_)
        · intro u hu; simp at hu; subst hu; rfl
        · unfold maxLen; omega
        · omega
        · simp; omega
        intro v2 w2 o2 g2 b2
        have b2' := hbel.trans (((Below.refl w.heap.size wr).alloc hsz _).trans b2)
        have o3 : w2.ownsRow w.heap.size 3 1 v2 (i + 1) (dcs (L ++ [(q + x + y) % 10])) := by simpa [dcs, iv] using o2
        clear o2 b2 ho g2
        go_wp2
        go_roundw
        case rel => exact ⟨i + 1, (q + x + y) / 10, _, _, rfl, by push_cast; rfl, by go_num, by omega, hTq, o3, b2', Lib.hid ⟨HP.out, hdg.out, HM.out⟩⟩
        case measure => simp [intOf]; omega
      · have hx9 := getD_digit da i
        have hy9 := getD_digit db i
        have HP := Lib.hid (plus_step HF.out.1 (own_len ho).symm)
        have hy0 := getD_out HB.out hj
        obtain ⟨p, rfl, hp, hc⟩ := (ha.belowMono hbel (Nat.le_refl _)).digAt hi
        generalize a.getD i 0 = x at *
        generalize b.getD i 0 = y at *
        subst hy0
        simp only [Nat.add_zero] at HP
        have hdg := Lib.hid (digs_snoc HF.out.2.1 (Nat.mod_lt (q + x) (show 0 < 10 by omega)))
        have HM := Lib.hid (show i + 1 = M + 1 → (q + x) / 10 = 0 by intro h; have := HF.out.2.2; omega)
        have hTq : (q + x) / 10 ≤ 1 := by omega
        go_wp2_with (at_builtin; refine wpList_app rowInts rfl (.tmp 44) (.tmp 47) rfl rfl rfl (ho.alloc _) (Rd.fresh _ _ 1 1 _ rfl) ?_ ?_ ?_ ?_ ?_)
        · intro u hu; simp at hu; subst hu; rfl
        · unfold maxLen; omega
        · omega
        · simp; omega
        intro v2 w2 o2 g2 b2
        have b2' := hbel.trans (((Below.refl w.heap.size wr).alloc hsz _).trans b2)
        have o3 : w2.ownsRow w.heap.size 3 1 v2 (i + 1) (dcs (L ++ [(q + x) % 10])) := by simpa [dcs, iv] using o2
        clear o2 b2 ho g2
        go_wp2
        go_roundw
        case rel => exact ⟨i + 1, (q + x) / 10, _, _, rfl, by push_cast; rfl, by go_num, by omega, hTq, o3, b2', Lib.hid ⟨HP.out, hdg.out, HM.out⟩⟩
        case measure => simp [intOf]; omega
    · by_cases hj : i < n'
      · have hx9 := getD_digit da i
        have hy9 := getD_digit db i
        have HP := Lib.hid (plus_step HF.out.1 (own_len ho).symm)
        have hx0 := getD_out HA.out hi
        obtain ⟨p2, rfl, hp2, hc2⟩ := (hb.belowMono hbel (Nat.le_refl _)).digAt hj
        generalize a.getD i 0 = x at *
        generalize b.getD i 0 = y at *
        subst hx0
        simp only [Nat.add_zero] at HP
        have hdg := Lib.hid (digs_snoc HF.out.2.1 (Nat.mod_lt (q + y) (show 0 < 10 by omega)))
        have HM := Lib.hid (show i + 1 = M + 1 → (q + y) / 10 = 0 by intro h; have := HF.out.2.2; omega)
        have hTq : (q + y) / 10 ≤ 1 := by omega
        go_wp2_with (at_builtin; refine wpList_app rowInts rfl (.tmp 44) (.tmp 47) rfl rfl rfl (ho.alloc _) (Rd.fresh _ _ 1 1 _ rfl) ?_ ?_ ?_ ?_ ?_)
        · intro u hu; simp at hu; subst hu; rfl
        · unfold maxLen; omega
        · omega
        · simp; omega
        intro v2 w2 o2 g2 b2
        have b2' := hbel.trans (((Below.refl w.heap.size wr).alloc hsz _).trans b2)
        have o3 : w2.ownsRow w.heap.size 3 1 v2 (i + 1) (dcs (L ++ [(q + y) % 10])) := by simpa [dcs, iv] using o2
        clear o2 b2 ho g2
        go_wp2
        go_roundw
        case rel => exact ⟨i + 1, (q + y) / 10, _, _, rfl, by push_cast; rfl, by go_num, by omega, hTq, o3, b2', Lib.hid ⟨HP.out, hdg.out, HM.out⟩⟩
        case measure => simp [intOf]; omega
      · by_cases hq : 0 < q
        · have hx9 := getD_digit da i
          have hy9 := getD_digit db i
          have HP := Lib.hid (plus_step HF.out.1 (own_len ho).symm)
          have hx0 := getD_out HA.out hi
          have hy0 := getD_out HB.out hj
          generalize a.getD i 0 = x at *
          generalize b.getD i 0 = y at *
          subst hx0
          subst hy0
          simp only [Nat.add_zero] at HP
          have hdg := Lib.hid (digs_snoc HF.out.2.1 (Nat.mod_lt q (show 0 < 10 by omega)))
          have HM := Lib.hid (show i + 1 = M + 1 → q / 10 = 0 by intro h; have := HF.out.2.2; omega)
          have hTq : q / 10 ≤ 1 := by omega
          have hq0 : (0 : Int) < (q : Int) := by omega
          have hiM2 : i ≤ M := by have := HF.out.2.2; omega
          go_wp2_with (at_builtin; refine wpList_app rowInts rfl (.tmp 44) (.tmp 47) rfl rfl rfl (ho.alloc _) (Rd.fresh _ _ 1 1 _ rfl) ?_ ?_ ?_ ?_ ?_)
          · intro u hu; simp at hu; subst hu; rfl
          · unfold maxLen; omega
          · omega
          · simp; omega
          intro v2 w2 o2 g2 b2
          have b2' := hbel.trans (((Below.refl w.heap.size wr).alloc hsz _).trans b2)
          have o3 : w2.ownsRow w.heap.size 3 1 v2 (i + 1) (dcs (L ++ [q % 10])) := by simpa [dcs, iv] using o2
          clear o2 b2 ho g2
          go_wp2
          go_roundw
          case rel => exact ⟨i + 1, q / 10, _, _, rfl, by push_cast; rfl, by go_num, by omega, hTq, o3, b2', Lib.hid ⟨HP.out, hdg.out, HM.out⟩⟩
          case measure => simp [intOf]; omega
        · obtain rfl : q = 0 := by omega
          have HE := Lib.hid (plus_end HF.out.1 (by rw [← HA.out]; omega) (by rw [← HB.out]; omega))
          have HD := Lib.hid HF.out.2.1
          clear HF
          go_wp2
          go_ret
          exact ⟨_, _, _, rfl, ho, HD.out, HE.out, by omega, hbel⟩
end Go.Proofs.YtgepipapppdhfaaGreatDoor
