/- cashbooklaw4.DecNear by its contract: it returns true. Condition: numbers within their kinds. -/
import Derived.Test.YtfkfgfajdmacbaaDoorFloorsLaw
namespace Go.Proofs.YtfkfgfajdmacbaaDoor
open Go.RowKit

theorem near_nums {dm : Int} {ds K : Nat} (hd : Gd dm ds) (hb : dm.natAbs ≤ 9223372036854776) (hk : K ≤ 9) :
    (roundD dm ds K).e = 0 ∧ (roundD dm ds K).s ≤ K ∧ Gd (roundD dm ds K).m (roundD dm ds K).s ∧ roundD (roundD dm ds K).m (roundD dm ds K).s K = roundD dm ds K
    ∧ (subD (roundD dm ds K).m (roundD dm ds K).s dm ds).e = 0
    ∧ Gd (subD (roundD dm ds K).m (roundD dm ds K).s dm ds).m (subD (roundD dm ds K).m (roundD dm ds K).s dm ds).s
    ∧ (K = 9 → (subD (roundD dm ds K).m (roundD dm ds K).s dm ds).m = 0)
    ∧ (K < 9 → (val (subD (roundD dm ds K).m (roundD dm ds K).s dm ds).m (subD (roundD dm ds K).m (roundD dm ds K).s dm ds).s).natAbs ≤ (val 5 (K + 1)).natAbs) := by
  obtain ⟨h1, h2, h3, h4⟩ := round_ok hd hb hk
  obtain ⟨h5, h6⟩ := round_val hd hb hk
  have h9 := hd.s9
  have e5 : (val 5 (K + 1)).natAbs ≤ 5000000000 := val_bd (m := 5) (s := K + 1) (b := 5) (by decide)
  have h7 : (val (roundD dm ds K).m (roundD dm ds K).s - val dm ds).natAbs ≤ (val 5 (K + 1)).natAbs := by
    rcases Nat.lt_or_ge K ds with h | h
    · exact h6 h
    · rw [h5 h]; simp
  have h8 : (subD (roundD dm ds K).m (roundD dm ds K).s dm ds).e = 0 := tl_small (by omega)
  obtain ⟨g1, g2⟩ := sub_ok h8
  refine ⟨h1, h2, h3, h4, h8, g1, fun h => ?_, fun _ => by rw [g2]; exact h7⟩
  have h10 : val (subD (roundD dm ds K).m (roundD dm ds K).s dm ds).m (subD (roundD dm ds K).m (roundD dm ds K).s dm ds).s = 0 := by
    rw [g2, h5 (by omega)]; simp
  exact val_zero_iff.1 h10

set_option maxRecDepth 100000 in
set_option maxHeartbeats 4000000 in
theorem near_good {w : World} {m s k : Int} (h0 : -9223372036854775808 ≤ m) (h1 : m ≤ 9223372036854775807) (s0 : 0 ≤ s) (s1 : s ≤ 255) (k0 : 0 ≤ k) (k1 : k ≤ 255) :
    Calls Tryd.prog 6 #[.int .i64 m, .int .u8 s, .int .u8 k] w fun e w' => e = .returned (.bool true) ∧ Below w.heap.size w w' := by
  have HK := Lib.hid (fun W : World => known4_any W)
  have HB : Hid (SB w 0 [] w) := Lib.hid ⟨Below.refl _ _, Nat.le_refl _, fun x hx => by cases hx⟩
  obtain ⟨M, hM, hMb⟩ : ∃ M : Int, wrap64 (m.tdiv 1000) = M ∧ M.natAbs ≤ 9223372036854775 := by
    have e : (m.tdiv 1000).natAbs = m.natAbs / 1000 := by rw [Int.natAbs_tdiv]; rfl
    exact ⟨m.tdiv 1000, IntWalk.wrap64_in _ ⟨by omega, by omega⟩, by omega⟩
  obtain ⟨S, hS, hS9⟩ : ∃ S : Nat, wrap64 (s.tmod 10) = (S : Int) ∧ S ≤ 9 := by
    have e := Int.tmod_eq_emod_of_nonneg (b := 10) s0
    exact ⟨(s % 10).toNat, by rw [e, IntWalk.wrap64_in _ ⟨by omega, by omega⟩]; omega, by omega⟩
  obtain ⟨K, hK, hK9⟩ : ∃ K : Nat, wrap64 (k.tmod 10) = (K : Int) ∧ K ≤ 9 := by
    have e := Int.tmod_eq_emod_of_nonneg (b := 10) k0
    exact ⟨(k % 10).toNat, by rw [e, IntWalk.wrap64_in _ ⟨by omega, by omega⟩]; omega, by omega⟩
  have hd0 : (tl M S).e = 0 := tl_small (by omega)
  have hdg := (tl_ok hS9 hd0).1
  have hda : (tl M S).m.natAbs ≤ 9223372036854776 := by have := strip_abs M S; omega
  obtain ⟨r1, r2, r3, r4, g1, g2, g3, g4⟩ := near_nums hdg hda hK9
  have HN : Hid (∀ W : World, Calls Tryd.prog 10 #[.agg #[.int .i64 M, .int .i64 (S : Nat)]] W fun e w' => e = .returned (.agg #[.int .i64 (tl M S).m, .int .i64 ((tl M S).s : Nat)]) ∧ Below W.heap.size W w') := Lib.hid (fun _ => norm_any (by omega) (by omega) hS9)
  have HR : Hid (∀ W : World, Calls Tryd.prog 13 #[.agg #[.int .i64 (tl M S).m, .int .i64 ((tl M S).s : Nat)], .int .i64 (K : Nat)] W fun e w' => e = .returned (.tuple #[.agg #[.int .i64 (roundD (tl M S).m (tl M S).s K).m, .int .i64 ((roundD (tl M S).m (tl M S).s K).s : Nat)], .int .i64 0]) ∧ Below W.heap.size W w') := Lib.hid (fun W => by
    have := round_any (w := W) (p := (K : Int)) hdg
    rw [dv_parts, r1] at this
    exact this)
  have HR2 : Hid (∀ W : World, Calls Tryd.prog 13 #[.agg #[.int .i64 (roundD (tl M S).m (tl M S).s K).m, .int .i64 ((roundD (tl M S).m (tl M S).s K).s : Nat)], .int .i64 (K : Nat)] W fun e w' => e = .returned (.tuple #[.agg #[.int .i64 (roundD (tl M S).m (tl M S).s K).m, .int .i64 ((roundD (tl M S).m (tl M S).s K).s : Nat)], .int .i64 0]) ∧ Below W.heap.size W w') := Lib.hid (fun W => by
    have := round_any (w := W) (p := (K : Int)) r3
    rw [r4, dv_parts, r1] at this
    exact this)
  have HS : Hid (∀ W : World, Calls Tryd.prog 19 #[.agg #[.int .i64 (roundD (tl M S).m (tl M S).s K).m, .int .i64 ((roundD (tl M S).m (tl M S).s K).s : Nat)], .agg #[.int .i64 (tl M S).m, .int .i64 ((tl M S).s : Nat)]] W fun e w' => e = .returned (.tuple #[.agg #[.int .i64 (subD (roundD (tl M S).m (tl M S).s K).m (roundD (tl M S).m (tl M S).s K).s (tl M S).m (tl M S).s).m, .int .i64 ((subD (roundD (tl M S).m (tl M S).s K).m (roundD (tl M S).m (tl M S).s K).s (tl M S).m (tl M S).s).s : Nat)], .int .i64 0]) ∧ Below W.heap.size W w') := Lib.hid (fun W => by
    have := dsub_any (w := W) r3 hdg
    rw [dv_parts, g1] at this
    exact this)
  generalize hp : subD (roundD (tl M S).m (tl M S).s K).m (roundD (tl M S).m (tl M S).s K).s (tl M S).m (tl M S).s = P at *
  have hT := g2.lo
  have hT' := g2.hi
  generalize (roundD (tl M S).m (tl M S).s K).m = rm at *
  generalize (roundD (tl M S).m (tl M S).s K).s = rs at *
  generalize (tl M S).m = dm at *
  generalize (tl M S).s = ds at *
  obtain ⟨T, q, E⟩ := P
  dsimp only at *
  have hle1 : decide ((K : Int) < (rs : Int)) = false := decide_eq_false (by omega)
  have hle2 : decide (K < rs) = false := decide_eq_false (by omega)
  have Hg := Lib.hid (And.intro g2 (And.intro g3 g4))
  have Hh := Lib.hid hK9
  clear r1 r2 r3 r4 g1 g2 g3 g4 hp hd0 hdg hda hMb hS9 hK9 hT hT' h0 h1 s0 s1 k0 k1
  go_enter Tryd.func6, Tryd.ntmps6
  go_wp2_with fail
  refine (HK.out _).mono ?_
  rintro e w1 ⟨rfl, hb⟩
  have HB2 := Lib.hid (HB.out.call hb)
  clear hb HB
  have HB := HB2
  clear HB2
  go_wp2_with fail
  refine (HN.out _).mono ?_
  rintro e w2 ⟨rfl, hb⟩
  have HB2 := Lib.hid ((HB.out.call hb).alloc 23 #[.int .i64 dm, .int .i64 (ds : Nat)])
  clear hb HB
  have HB := HB2
  clear HB2
  have k7 := HB.out.bk _ (List.mem_cons_self ..)
  have c70 := k7.cell 0
  have c71 := k7.cell 1
  clear k7
  go_wp2_with fail
  refine (HR.out _).mono ?_
  rintro e w3 ⟨rfl, hb⟩
  have HB2 := Lib.hid ((HB.out.call hb).alloc 23 #[.int .i64 rm, .int .i64 (rs : Nat)])
  clear hb HB
  have HB := HB2
  clear HB2
  clear c70 c71
  have k9 := HB.out.bk _ (List.mem_cons_self ..)
  have c90 := k9.cell 0
  have c91 := k9.cell 1
  clear k9
  go_wp2_with fail
  refine (HR2.out _).mono ?_
  rintro e w4 ⟨rfl, hb⟩
  have HB2 := Lib.hid ((HB.out.call hb).alloc 23 #[.int .i64 rm, .int .i64 (rs : Nat)])
  clear hb HB
  have HB := HB2
  clear HB2
  clear c90 c91
  have k6 := HB.out.bk _ (List.mem_cons_self ..)
  have c60 := k6.cell 0
  have c61 := k6.cell 1
  clear k6
  have k9 := HB.out.bk _ (.tail _ (.head _))
  have c90 := k9.cell 0
  have c91 := k9.cell 1
  clear k9
  have k7 := HB.out.bk _ (.tail _ (.tail _ (.head _)))
  have c70 := k7.cell 0
  have c71 := k7.cell 1
  clear k7
  go_wp2_with fail
  refine (HS.out _).mono ?_
  rintro e w5 ⟨rfl, hb⟩
  have HBp := Lib.hid (HB.out.call hb)
  clear hb HB c60 c61 c90 c91 c70 c71 hle1 hle2 HK HN HR HR2 HS
  obtain ⟨g2, g3, g4⟩ := Hg.out
  have hK9 := Hh.out
  clear Hg Hh
  obtain ⟨K1, hK1⟩ : ∃ K1 : Nat, K1 = K + 1 := ⟨_, rfl⟩
  have hw : wrap64 ((K : Int) + 1) = (K1 : Int) := by rw [IntWalk.wrap64_in _ ⟨by omega, by omega⟩]; omega
  rcases Nat.lt_or_ge K 9 with hk | hk
  · have hk9 : ((K : Int) == 9) = false := by simp; omega
    have h5 := g4 hk
    have h6 : 0 ≤ val 5 (K + 1) := Int.mul_nonneg (by omega) (Int.le_of_lt (Int.pow_pos (by omega)))
    have h7 := abs_val T q
    have e5 : (val 5 (K + 1)).natAbs ≤ 5000000000 := val_bd (m := 5) (s := K + 1) (b := 5) (by decide)
    have gh : Gd 5 (K + 1) := ⟨by omega, by omega, by omega, .inr (by decide)⟩
    have hq := g2.s9
    rcases Int.lt_or_le T 0 with hT | hT
    · obtain ⟨T', hT'⟩ : ∃ T' : Int, T' = -T := ⟨_, rfl⟩
      have hwT : wrap64 (-T) = T' := by rw [IntWalk.wrap64_in _ ⟨by omega, by omega⟩]; omega
      have gt : Gd T' q := ⟨by omega, by omega, hq, (by rcases g2.last with h | h
                                                        · exact .inl h
                                                        · right; omega)⟩
      have hv : val T' q = -val T q := by rw [hT', val_neg]
      have HC : Hid (∀ W : World, Calls Tryd.prog 20 #[.agg #[.int .i64 T', .int .i64 (q : Nat)], .agg #[.int .i64 5, .int .i64 ((K + 1 : Nat) : Int)]] W fun e w' => e = .returned (.int .i64 (cmp (val T' q) (val 5 (K + 1)))) ∧ Below W.heap.size W w') := Lib.hid (fun _ => compare_any gt gh)
      have hY : decide (cmp (val T' q) (val 5 (K + 1)) ≤ 0) = true := decide_eq_true ((cmp_le _ _).2 (by omega))
      rw [← hK1] at HC hY
      generalize cmp (val T' q) (val 5 K1) = Y at *
      clear hv gt hT' gh e5 h7 h6 h5 hk g4 g3 g2 hq hK1 hK9
      go_wp2_with fail
      refine (HC.out _).mono ?_
      rintro e w6 ⟨rfl, hb⟩
      have hbel := Lib.hid (((HBp.out.alloc 23 #[.int .i64 T', .int .i64 (q : Nat)]).alloc 23 #[.int .i64 5, .int .i64 (K1 : Nat)]).call hb).bel
      clear hb
      go_wp2
      go_ret
      exact ⟨rfl, hbel.out⟩
    · have gt := g2
      have HC : Hid (∀ W : World, Calls Tryd.prog 20 #[.agg #[.int .i64 T, .int .i64 (q : Nat)], .agg #[.int .i64 5, .int .i64 ((K + 1 : Nat) : Int)]] W fun e w' => e = .returned (.int .i64 (cmp (val T q) (val 5 (K + 1)))) ∧ Below W.heap.size W w') := Lib.hid (fun _ => compare_any gt gh)
      have hY : decide (cmp (val T q) (val 5 (K + 1)) ≤ 0) = true := decide_eq_true ((cmp_le _ _).2 (by omega))
      rw [← hK1] at HC hY
      generalize cmp (val T q) (val 5 K1) = Y at *
      clear gt gh e5 h7 h6 h5 hk g4 g3 g2 hq hK1 hK9
      go_wp2_with fail
      refine (HC.out _).mono ?_
      rintro e w6 ⟨rfl, hb⟩
      have hbel := Lib.hid (((HBp.out.alloc 23 #[.int .i64 T, .int .i64 (q : Nat)]).alloc 23 #[.int .i64 5, .int .i64 (K1 : Nat)]).call hb).bel
      clear hb
      go_wp2
      go_ret
      exact ⟨rfl, hbel.out⟩
  · obtain rfl : K = 9 := by omega
    obtain rfl := g3 rfl
    have hbel := Lib.hid ((HBp.out.alloc 23 #[.int .i64 0, .int .i64 (q : Nat)]).alloc 23 #[.int .i64 5, .int .i64 10]).bel
    clear g2 g3 g4 hk hK1 hK9
    go_wp2
    go_ret
    exact ⟨rfl, hbel.out⟩
end Go.Proofs.YtfkfgfajdmacbaaDoor
