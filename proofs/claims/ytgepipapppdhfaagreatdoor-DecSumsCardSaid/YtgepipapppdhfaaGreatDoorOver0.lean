/- The reference's over by its contract: the quotient's digits, whether the rest is half or more, whether there is one. Condition: no more than two hundred digits, the divisor above 0. -/
import Derived.Test.YtgepipapppdhfaaGreatDoorRow6
namespace Go.Proofs.YtgepipapppdhfaaGreatDoor
open Go.RowKit

set_option maxHeartbeats 1000000 in
theorem plusN_any {w : World} {n c n' c' : Nat} {A A' : Option Addr} {a b : List Nat} (ha : Rd w w.heap.size 1 A n (dcs a)) (hb : Rd w w.heap.size 1 A' n' (dcs b)) (da : Digs a) (db : Digs b) (hn : n ≤ 1000) (hn' : n' ≤ 1000) :
    Calls Tryz.prog 44 #[.slice A n c, .slice A' n' c'] w fun e w' => ∃ v k L, e = .returned v ∧ w'.ownsRow w.heap.size 3 1 v k (dcs L) ∧ Digs L ∧ dval L = dval a + dval b ∧ k ≤ 1001 ∧ (k ≤ n ∨ k ≤ n' ∨ 10 ^ (k - 1) ≤ dval a + dval b) ∧ Below w.heap.size w w' := by
  have HA := Lib.hid ha.dlen
  have HB := Lib.hid hb.dlen
  obtain ⟨M, hM1, hM2, hM3⟩ : ∃ M, n ≤ M ∧ n' ≤ M ∧ M ≤ 1000 := ⟨1000, hn, hn', Nat.le_refl _⟩
  go_enter Tryz.func44, Tryz.ntmps44
  go_wp2
  go_loopw [5, 6, 7] (fun out cc ii wr => ∃ (i q : Nat) (v : Value) (L : List Nat), out = v ∧ cc = .int .i64 q ∧ ii = .int .i64 i ∧ i ≤ M + 1 ∧ q ≤ 1 ∧ wr.ownsRow w.heap.size 3 1 v i (dcs L) ∧ Below w.heap.size w wr ∧ Hid (dval L + 10 ^ i * q = dval (a.take i) + dval (b.take i) ∧ Digs L ∧ (i = M + 1 → q = 0) ∧ (i ≤ n ∨ i ≤ n' ∨ 10 ^ (i - 1) ≤ dval a + dval b))) (fun _ _ ii _ => M + 1 - (intOf ii).toNat)
  case atStart => exact ⟨0, 0, _, [], rfl, rfl, rfl, by omega, by omega, World.ownsRow_nil _ _ _ _, Below.refl _ _, Lib.hid ⟨by simp [dval], (fun d hd => by cases hd), fun _ => rfl, .inl (Nat.zero_le _)⟩⟩
  case round =>
    obtain ⟨i, q, v, L, rfl, rfl, rfl, hiM, hq1, ho, hbel, HF⟩ := hrel
    have hsz := hbel.size
    by_cases hi : i < n
    · by_cases hj : i < n'
      · have hx9 := getD_digit da i
        have hy9 := getD_digit db i
        have HP := Lib.hid (plus_step HF.out.1 (own_len ho).symm)
        obtain ⟨p, rfl, hp, hc⟩ := (ha.belowMono hbel (Nat.le_refl _)).digAt hi
        obtain ⟨p2, rfl, hp2, hc2⟩ := (hb.belowMono hbel (Nat.le_refl _)).digAt hj
        generalize a.getD i 0 = x at *
        generalize b.getD i 0 = y at *
        have hdg := Lib.hid (digs_snoc HF.out.2.1 (Nat.mod_lt (q + x + y) (show 0 < 10 by omega)))
        have HM := Lib.hid (show i + 1 = M + 1 → (q + x + y) / 10 = 0 by intro h; have := HF.out.2.2.1; omega)
        have hTq : (q + x + y) / 10 ≤ 1 := by omega
        go_wp2_with (at_builtin; refine wpList_app rowInts rfl (.tmp 44) (.tmp 47) rfl rfl rfl (ho.alloc _) (Rd.fresh _ _ 1 1 _ rfl) ?_ ?_ ?_ ?_ ?_)
        · intro u hu; simp at hu; subst hu; rfl
        · unfold maxLen; omega
        · omega
        · simp; omega
        intro v2 w2 o2 g2 b2
        have b2' := hbel.trans (((Below.refl w.heap.size wr).alloc hsz _).trans b2)
        have o3 : w2.ownsRow w.heap.size 3 1 v2 (i + 1) (dcs (L ++ [(q + x + y) % 10])) := by simpa [dcs, iv] using o2
        clear o2 b2 ho g2
        go_wp2
        go_roundw
        case rel => exact ⟨i + 1, (q + x + y) / 10, _, _, rfl, by push_cast; rfl, by go_num, by omega, hTq, o3, b2', Lib.hid ⟨HP.out, hdg.out, HM.out, .inl (by omega)⟩⟩
        case measure => simp [intOf]; omega
      · have hx9 := getD_digit da i
        have hy9 := getD_digit db i
        have HP := Lib.hid (plus_step HF.out.1 (own_len ho).symm)
        have hy0 := getD_out HB.out hj
        obtain ⟨p, rfl, hp, hc⟩ := (ha.belowMono hbel (Nat.le_refl _)).digAt hi
        generalize a.getD i 0 = x at *
        generalize b.getD i 0 = y at *
        subst hy0
        simp only [Nat.add_zero] at HP
        have hdg := Lib.hid (digs_snoc HF.out.2.1 (Nat.mod_lt (q + x) (show 0 < 10 by omega)))
        have HM := Lib.hid (show i + 1 = M + 1 → (q + x) / 10 = 0 by intro h; have := HF.out.2.2.1; omega)
        have hTq : (q + x) / 10 ≤ 1 := by omega
        go_wp2_with (at_builtin; refine wpList_app rowInts rfl (.tmp 44) (.tmp 47) rfl rfl rfl (ho.alloc _) (Rd.fresh _ _ 1 1 _ rfl) ?_ ?_ ?_ ?_ ?_)
        · intro u hu; simp at hu; subst hu; rfl
        · unfold maxLen; omega
        · omega
        · simp; omega
        intro v2 w2 o2 g2 b2
        have b2' := hbel.trans (((Below.refl w.heap.size wr).alloc hsz _).trans b2)
        have o3 : w2.ownsRow w.heap.size 3 1 v2 (i + 1) (dcs (L ++ [(q + x) % 10])) := by simpa [dcs, iv] using o2
        clear o2 b2 ho g2
        go_wp2
        go_roundw
        case rel => exact ⟨i + 1, (q + x) / 10, _, _, rfl, by push_cast; rfl, by go_num, by omega, hTq, o3, b2', Lib.hid ⟨HP.out, hdg.out, HM.out, .inl (by omega)⟩⟩
        case measure => simp [intOf]; omega
    · by_cases hj : i < n'
      · have hx9 := getD_digit da i
        have hy9 := getD_digit db i
        have HP := Lib.hid (plus_step HF.out.1 (own_len ho).symm)
        have hx0 := getD_out HA.out hi
        obtain ⟨p2, rfl, hp2, hc2⟩ := (hb.belowMono hbel (Nat.le_refl _)).digAt hj
        generalize a.getD i 0 = x at *
        generalize b.getD i 0 = y at *
        subst hx0
        simp only [Nat.add_zero] at HP
        have hdg := Lib.hid (digs_snoc HF.out.2.1 (Nat.mod_lt (q + y) (show 0 < 10 by omega)))
        have HM := Lib.hid (show i + 1 = M + 1 → (q + y) / 10 = 0 by intro h; have := HF.out.2.2.1; omega)
        have hTq : (q + y) / 10 ≤ 1 := by omega
        go_wp2_with (at_builtin; refine wpList_app rowInts rfl (.tmp 44) (.tmp 47) rfl rfl rfl (ho.alloc _) (Rd.fresh _ _ 1 1 _ rfl) ?_ ?_ ?_ ?_ ?_)
        · intro u hu; simp at hu; subst hu; rfl
        · unfold maxLen; omega
        · omega
        · simp; omega
        intro v2 w2 o2 g2 b2
        have b2' := hbel.trans (((Below.refl w.heap.size wr).alloc hsz _).trans b2)
        have o3 : w2.ownsRow w.heap.size 3 1 v2 (i + 1) (dcs (L ++ [(q + y) % 10])) := by simpa [dcs, iv] using o2
        clear o2 b2 ho g2
        go_wp2
        go_roundw
        case rel => exact ⟨i + 1, (q + y) / 10, _, _, rfl, by push_cast; rfl, by go_num, by omega, hTq, o3, b2', Lib.hid ⟨HP.out, hdg.out, HM.out, .inr (.inl (by omega))⟩⟩
        case measure => simp [intOf]; omega
      · by_cases hq : 0 < q
        · have hx9 := getD_digit da i
          have hy9 := getD_digit db i
          have HP := Lib.hid (plus_step HF.out.1 (own_len ho).symm)
          have hx0 := getD_out HA.out hi
          have hy0 := getD_out HB.out hj
          generalize a.getD i 0 = x at *
          generalize b.getD i 0 = y at *
          subst hx0
          subst hy0
          simp only [Nat.add_zero] at HP
          have hdg := Lib.hid (digs_snoc HF.out.2.1 (Nat.mod_lt q (show 0 < 10 by omega)))
          have HM := Lib.hid (show i + 1 = M + 1 → q / 10 = 0 by intro h; have := HF.out.2.2.1; omega)
          have hTq : q / 10 ≤ 1 := by omega
          have hq0 : (0 : Int) < (q : Int) := by omega
          have HT10 := Lib.hid (show 10 ^ (i + 1 - 1) ≤ dval a + dval b by
            have h1 := HF.out.1
            rw [dval_take_all (by rw [← HA.out]; omega), dval_take_all (by rw [← HB.out]; omega)] at h1
            have h2 : q = 1 := by omega
            rw [h2, Nat.mul_one] at h1
            rw [Nat.add_sub_cancel]
            omega)
          have hiM2 : i ≤ M := by have := HF.out.2.2.1; omega
          go_wp2_with (at_builtin; refine wpList_app rowInts rfl (.tmp 44) (.tmp 47) rfl rfl rfl (ho.alloc _) (Rd.fresh _ _ 1 1 _ rfl) ?_ ?_ ?_ ?_ ?_)
          · intro u hu; simp at hu; subst hu; rfl
          · unfold maxLen; omega
          · omega
          · simp; omega
          intro v2 w2 o2 g2 b2
          have b2' := hbel.trans (((Below.refl w.heap.size wr).alloc hsz _).trans b2)
          have o3 : w2.ownsRow w.heap.size 3 1 v2 (i + 1) (dcs (L ++ [q % 10])) := by simpa [dcs, iv] using o2
          clear o2 b2 ho g2
          go_wp2
          go_roundw
          case rel => exact ⟨i + 1, q / 10, _, _, rfl, by push_cast; rfl, by go_num, by omega, hTq, o3, b2', Lib.hid ⟨HP.out, hdg.out, HM.out, .inr (.inr HT10.out)⟩⟩
          case measure => simp [intOf]; omega
        · obtain rfl : q = 0 := by omega
          have HE := Lib.hid (plus_end HF.out.1 (by rw [← HA.out]; omega) (by rw [← HB.out]; omega))
          have HD := Lib.hid HF.out.2.1
          have HW := Lib.hid HF.out.2.2.2
          clear HF
          go_wp2
          go_ret
          exact ⟨_, _, _, rfl, ho, HD.out, HE.out, by omega, HW.out, hbel⟩
theorem neat_of {l : List Nat} (hd : Digs l) (h : l = [] ∨ 10 ^ (l.length - 1) ≤ dval l) : Neat l := by
  rcases snoc_cases l with rfl | ⟨m, d, rfl⟩
  · exact Neat.nil
  · intro x hx
    simp at hx
    subst hx
    rintro rfl
    rcases h with h | h
    · simp at h
    · rw [dval_snoc, List.length_append, List.length_singleton, Nat.add_sub_cancel, Nat.mul_zero, Nat.add_zero] at h
      have := dval_lt (l := m) (fun y hy => hd y (List.mem_append_left _ hy))
      omega
theorem own_fresh {w : World} {base : Nat} {v : Value} (hb : base ≤ w.heap.size) : (w.alloc (.cells #[v] 3)).ownsRow base 3 1 (.slice (some ⟨w.heap.size, 0, none⟩) 1 1) 1 [v] :=
  ⟨rfl, .inr ⟨w.heap.size, 1, #[v], rfl, hb, heap_alloc_new w _, Nat.le_refl _, by unfold maxLen; omega, rfl, rfl⟩⟩
theorem neat_push {d R : Nat} (hd : d < 10) : neat (d :: digs R) = digs (d + 10 * R) := by
  have h : Digs (d :: digs R) := fun x hx => by
    rcases List.mem_cons.1 hx with rfl | hx
    · exact hd
    · exact digs_digs R x hx
  rw [neat_eq h]
  simp only [dval, dval_digs]
theorem digs_at' (N i : Nat) : (digs N).getD i 0 = N / 10 ^ i % 10 := by
  have h := digs_drop N i
  rcases Nat.lt_or_ge i (digs N).length with hi | hi
  · rw [List.drop_eq_getElem_cons hi] at h
    simp only [List.getD, List.getElem?_eq_getElem hi, Option.getD_some]
    rcases Nat.eq_zero_or_pos (N / 10 ^ i) with h0 | h0
    · rw [h0, digs_zero] at h; cases h
    · rw [digs_pos h0] at h
      exact (List.cons.inj h).1
  · rw [List.drop_of_length_le hi] at h
    have := digs_nil.1 h.symm
    rw [this]
    simp [List.getD, List.getElem?_eq_none hi]
theorem len_le' {m n : Nat} (h : m ≤ n) : (digs m).length ≤ (digs n).length := by
  refine digs_len.2 (Nat.lt_of_le_of_lt h ?_)
  have := dval_lt (digs_digs n)
  rw [dval_digs] at this
  exact this
/-- What was there stays, where a row just made is appended to. -/
theorem g2_below {w w2 : World} {v v2 : Value} (h : Grew (w.alloc (.cells #[v] 3)) w2 (.slice (some ⟨w.heap.size, 0, none⟩) 1 1) v2) : Below w.heap.size w w2 := by
  refine ⟨h.grown.os, h.grown.tape, h.grown.output, by have := h.grown.size; simp at this; omega, fun i hi => ?_⟩
  rw [h.grown.block i (by simp; omega) (by simp [Value.ownBlock]; omega)]
  exact Below.heap_alloc w _ i hi
end Go.Proofs.YtgepipapppdhfaaGreatDoor
