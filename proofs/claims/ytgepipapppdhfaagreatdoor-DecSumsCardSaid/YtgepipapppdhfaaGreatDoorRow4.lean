/- The reference's minus by its contract. Condition: the digits read as such, are no more than a thousand, and the one is not less. -/
import Derived.Test.YtgepipapppdhfaaGreatDoorRow3
namespace Go.Proofs.YtgepipapppdhfaaGreatDoor
open Go.RowKit

set_option maxHeartbeats 1000000 in
theorem minus_any {w : World} {n c n' c' : Nat} {A A' : Option Addr} {a b : List Nat} (ha : Rd w w.heap.size 1 A n (dcs a)) (hb : Rd w w.heap.size 1 A' n' (dcs b)) (da : Digs a) (db : Digs b) (hn : n ≤ 1000) (hn' : n' ≤ n) (hle : dval b ≤ dval a) :
    Calls Tryz.prog 61 #[.slice A n c, .slice A' n' c'] w fun e w' => ∃ v k L, e = .returned v ∧ w'.ownsRow w.heap.size 3 1 v k (dcs L) ∧ Digs L ∧ dval L = dval a - dval b ∧ k ≤ 1001 ∧ Below w.heap.size w w' := by
  have HA := Lib.hid ha.dlen
  have HB := Lib.hid hb.dlen
  go_enter Tryz.func61, Tryz.ntmps61
  go_wp2
  go_loopw [5, 6, 7] (fun out cc ii wr => ∃ (i q : Nat) (v : Value) (L : List Nat), out = v ∧ cc = .int .i64 q ∧ ii = .int .i64 i ∧ i ≤ n ∧ q ≤ 1 ∧ wr.ownsRow w.heap.size 3 1 v i (dcs L) ∧ Below w.heap.size w wr ∧ Hid (dval L + dval (b.take i) = dval (a.take i) + 10 ^ i * q ∧ Digs L)) (fun _ _ ii _ => n - (intOf ii).toNat)
  case atStart => exact ⟨0, 0, _, [], rfl, rfl, rfl, by omega, by omega, World.ownsRow_nil _ _ _ _, Below.refl _ _, Lib.hid ⟨by simp [dval], (fun d hd => by cases hd)⟩⟩
  case round =>
    obtain ⟨i, q, v, L, rfl, rfl, rfl, hiM, hq1, ho, hbel, HF⟩ := hrel
    have hsz := hbel.size
    by_cases hi : i < n
    · by_cases hj : i < n'
      · by_cases hneg : a.getD i 0 < q + b.getD i 0
        · have hx9 := getD_digit da i
          have hy9 := getD_digit db i
          have HP := @minus_step a b L i q HF.out.1 (own_len ho).symm
          obtain ⟨p, rfl, hp, hc⟩ := (ha.belowMono hbel (Nat.le_refl _)).digAt hi
          obtain ⟨p2, rfl, hp2, hc2⟩ := (hb.belowMono hbel (Nat.le_refl _)).digAt hj
          generalize a.getD i 0 = x at *
          generalize b.getD i 0 = y at *
          have HP2 := Lib.hid (@HP (10 + x - (q + y)) 1 (by omega))
          have hdg := Lib.hid (digs_snoc HF.out.2 (show 10 + x - (q + y) < 10 by omega))
          have hd : ((10 + x - (q + y) : Nat) : Int) = (x : Int) - (q : Int) - (y : Int) + 10 := by omega
          clear HP
          go_wp2_with (at_builtin; refine wpList_app rowInts rfl (.tmp 35) (.tmp 37) rfl rfl rfl (ho.alloc _) (Rd.fresh _ _ 1 1 _ rfl) ?_ ?_ ?_ ?_ ?_)
          · intro u hu; simp at hu; subst hu; rfl
          · unfold maxLen; omega
          · omega
          · simp; omega
          intro v2 w2 o2 g2 b2
          have b2' := hbel.trans (((Below.refl w.heap.size wr).alloc hsz _).trans b2)
          have o3 : w2.ownsRow w.heap.size 3 1 v2 (i + 1) (dcs (L ++ [10 + x - (q + y)])) := by
            rw [dcs_append, show dcs [10 + x - (q + y)] = [.int .i64 ((x : Int) - (q : Int) - (y : Int) + 10)] by simp only [dcs, iv, List.map_cons, List.map_nil, hd]]
            exact o2
          clear o2 b2 ho g2 hd
          go_wp2
          go_roundw
          case rel => exact ⟨i + 1, 1, _, _, rfl, rfl, by go_num, by omega, by omega, o3, b2', Lib.hid ⟨HP2.out, hdg.out⟩⟩
          case measure => simp [intOf]; omega
        · have hx9 := getD_digit da i
          have hy9 := getD_digit db i
          have HP := @minus_step a b L i q HF.out.1 (own_len ho).symm
          obtain ⟨p, rfl, hp, hc⟩ := (ha.belowMono hbel (Nat.le_refl _)).digAt hi
          obtain ⟨p2, rfl, hp2, hc2⟩ := (hb.belowMono hbel (Nat.le_refl _)).digAt hj
          generalize a.getD i 0 = x at *
          generalize b.getD i 0 = y at *
          have HP2 := Lib.hid (@HP (x - (q + y)) 0 (by omega))
          have hdg := Lib.hid (digs_snoc HF.out.2 (show x - (q + y) < 10 by omega))
          have hd : ((x - (q + y) : Nat) : Int) = (x : Int) - (q : Int) - (y : Int) := by omega
          clear HP
          go_wp2_with (at_builtin; refine wpList_app rowInts rfl (.tmp 35) (.tmp 37) rfl rfl rfl (ho.alloc _) (Rd.fresh _ _ 1 1 _ rfl) ?_ ?_ ?_ ?_ ?_)
          · intro u hu; simp at hu; subst hu; rfl
          · unfold maxLen; omega
          · omega
          · simp; omega
          intro v2 w2 o2 g2 b2
          have b2' := hbel.trans (((Below.refl w.heap.size wr).alloc hsz _).trans b2)
          have o3 : w2.ownsRow w.heap.size 3 1 v2 (i + 1) (dcs (L ++ [x - (q + y)])) := by
            rw [dcs_append, show dcs [x - (q + y)] = [.int .i64 ((x : Int) - (q : Int) - (y : Int))] by simp only [dcs, iv, List.map_cons, List.map_nil, hd]]
            exact o2
          clear o2 b2 ho g2 hd
          go_wp2
          go_roundw
          case rel => exact ⟨i + 1, 0, _, _, rfl, rfl, by go_num, by omega, by omega, o3, b2', Lib.hid ⟨HP2.out, hdg.out⟩⟩
          case measure => simp [intOf]; omega
      · by_cases hneg : a.getD i 0 < q
        · have hx9 := getD_digit da i
          have hy9 := getD_digit db i
          have HP := @minus_step a b L i q HF.out.1 (own_len ho).symm
          obtain ⟨p, rfl, hp, hc⟩ := (ha.belowMono hbel (Nat.le_refl _)).digAt hi
          have hy0 := getD_out HB.out hj
          generalize a.getD i 0 = x at *
          generalize b.getD i 0 = y at *
          subst hy0
          have HP2 := Lib.hid (@HP (10 + x - (q)) 1 (by omega))
          have hdg := Lib.hid (digs_snoc HF.out.2 (show 10 + x - (q) < 10 by omega))
          have hd : ((10 + x - (q) : Nat) : Int) = (x : Int) - (q : Int) + 10 := by omega
          clear HP
          go_wp2_with (at_builtin; refine wpList_app rowInts rfl (.tmp 35) (.tmp 37) rfl rfl rfl (ho.alloc _) (Rd.fresh _ _ 1 1 _ rfl) ?_ ?_ ?_ ?_ ?_)
          · intro u hu; simp at hu; subst hu; rfl
          · unfold maxLen; omega
          · omega
          · simp; omega
          intro v2 w2 o2 g2 b2
          have b2' := hbel.trans (((Below.refl w.heap.size wr).alloc hsz _).trans b2)
          have o3 : w2.ownsRow w.heap.size 3 1 v2 (i + 1) (dcs (L ++ [10 + x - (q)])) := by
            rw [dcs_append, show dcs [10 + x - (q)] = [.int .i64 ((x : Int) - (q : Int) + 10)] by simp only [dcs, iv, List.map_cons, List.map_nil, hd]]
            exact o2
          clear o2 b2 ho g2 hd
          go_wp2
          go_roundw
          case rel => exact ⟨i + 1, 1, _, _, rfl, rfl, by go_num, by omega, by omega, o3, b2', Lib.hid ⟨HP2.out, hdg.out⟩⟩
          case measure => simp [intOf]; omega
        · have hx9 := getD_digit da i
          have hy9 := getD_digit db i
          have HP := @minus_step a b L i q HF.out.1 (own_len ho).symm
          obtain ⟨p, rfl, hp, hc⟩ := (ha.belowMono hbel (Nat.le_refl _)).digAt hi
          have hy0 := getD_out HB.out hj
          generalize a.getD i 0 = x at *
          generalize b.getD i 0 = y at *
          subst hy0
          have HP2 := Lib.hid (@HP (x - (q)) 0 (by omega))
          have hdg := Lib.hid (digs_snoc HF.out.2 (show x - (q) < 10 by omega))
          have hd : ((x - (q) : Nat) : Int) = (x : Int) - (q : Int) := by omega
          clear HP
          go_wp2_with (at_builtin; refine wpList_app rowInts rfl (.tmp 35) (.tmp 37) rfl rfl rfl (ho.alloc _) (Rd.fresh _ _ 1 1 _ rfl) ?_ ?_ ?_ ?_ ?_)
          · intro u hu; simp at hu; subst hu; rfl
          · unfold maxLen; omega
          · omega
          · simp; omega
          intro v2 w2 o2 g2 b2
          have b2' := hbel.trans (((Below.refl w.heap.size wr).alloc hsz _).trans b2)
          have o3 : w2.ownsRow w.heap.size 3 1 v2 (i + 1) (dcs (L ++ [x - (q)])) := by
            rw [dcs_append, show dcs [x - (q)] = [.int .i64 ((x : Int) - (q : Int))] by simp only [dcs, iv, List.map_cons, List.map_nil, hd]]
            exact o2
          clear o2 b2 ho g2 hd
          go_wp2
          go_roundw
          case rel => exact ⟨i + 1, 0, _, _, rfl, rfl, by go_num, by omega, by omega, o3, b2', Lib.hid ⟨HP2.out, hdg.out⟩⟩
          case measure => simp [intOf]; omega
    · obtain rfl : i = n := by omega
      have HE := Lib.hid (minus_end (a := a) (b := b) (out := L) (c := q) (by rw [← HA.out]; exact HF.out.1) HF.out.2 (by rw [← HA.out]; exact (own_len ho).symm) (by rw [← HA.out, ← HB.out]; exact hn') hle)
      have HD := Lib.hid HF.out.2
      clear HF
      go_wp2
      go_ret
      exact ⟨_, _, _, rfl, ho, HD.out, HE.out.1, by omega, hbel⟩
end Go.Proofs.YtgepipapppdhfaaGreatDoor
