/- dec.Text by its contract: what it tells of a decimal that may be. Condition: strconv.FormatUint keeps its contract (its table is laid). -/
import Derived.Test.YtmbjmgmnicacpaaDoorTq
import Derived.Test.YtmbjmgmnicacpaaDoorPa3
namespace Go.Proofs.YtmbjmgmnicacpaaDoor
open Go.RowKit

theorem ba_app (l m : List UInt8) : (⟨l.toArray⟩ : ByteArray) ++ (⟨m.toArray⟩ : ByteArray) = ⟨(l ++ m).toArray⟩ := by
  apply ByteArray.ext
  simp
theorem ba_take (l : List UInt8) (p : Nat) : (⟨l.toArray⟩ : ByteArray).extract 0 p = ⟨(l.take p).toArray⟩ := by
  apply ByteArray.ext
  simp
theorem ba_drop (l : List UInt8) (p : Nat) : (⟨l.toArray⟩ : ByteArray).extract p (⟨l.toArray⟩ : ByteArray).size = ⟨(l.drop p).toArray⟩ := by
  apply ByteArray.ext
  rw [bsize, ByteArray.data_extract]
  apply Array.toList_inj.1
  rw [Array.toList_extract, List.extract_eq_take_drop, List.take_of_length_le (by simp)]
theorem dec_len {n : Nat} (h : n < 18446744073709551616) : 1 ≤ (Lib.decDigits n).length ∧ (Lib.decDigits n).length ≤ 20 := by
  by_cases h0 : n = 0
  · subst h0
    rw [decDigits_0]
    simp
  · rw [decDigits_digs n n (Nat.le_refl _) (by omega), List.length_reverse, List.length_map]
    have h1 : (digs n).length ≤ 20 := digs_len.2 (by omega)
    rw [digs_pos (by omega)] at *
    simp only [List.length_cons] at *
    omega
theorem w64 {x : Int} (h0 : -9223372036854775808 ≤ x) (h1 : x ≤ 9223372036854775807) : wrap64 x = x := IntWalk.wrap64_in _ ⟨h0, h1⟩

theorem text_any {w : World} (HT : Tens w) {m : Int} {s : Nat} (h : Gd m s) :
    Calls Tryd.prog 34 #[.agg #[.int .i64 m, .int .i64 (s : Nat)]] w fun e w' => e = .returned (sL (decTx m s)) ∧ Below w.heap.size w w' := by
  have hm0 := h.lo
  have hm1 := h.hi
  have hs9 := h.s9
  have hn : m.natAbs < 18446744073709551616 := by omega
  have K1 : ∀ W : World, Calls Tryd.prog 20 #[.agg #[.int .i64 m, .int .i64 (s : Nat)]] W fun e w' => e = .returned (.int .i64 0) ∧ Below W.heap.size W w' := fun W => by
    have := check_any (w := W) (m := m) (s := (s : Int))
    rw [h.ck] at this
    exact this
  have K2 : ∀ W : World, Calls Tryd.prog 45 #[.int .i64 m] W fun e w' => e = .returned (.agg #[.bool (decide (m < 0)), .int .u64 0, .int .u64 (m.natAbs : Nat)]) ∧ Below W.heap.size W w' := fun W => by
    have := widen_any (w := W) hm0 hm1
    rw [wd_small hn] at this
    exact this
  have K3 : ∀ W : World, Below w.heap.size w W → Calls Tryd.prog 54 #[.int .u64 (m.natAbs : Nat), .int .i64 10] W fun e w' => e = .returned (sL (Lib.decDigits m.natAbs)) ∧ Below W.heap.size W w' := fun W hb => HT _ W hn hb
  obtain ⟨hd1, hd20⟩ := dec_len hn
  have hpad := prog_pad m.natAbs s
  have hplen := padded_len m.natAbs s
  have hll : (padded m.natAbs s).length = (s + 1 - (Lib.decDigits m.natAbs).length) + (Lib.decDigits m.natAbs).length := by
    have := congrArg List.length hpad
    simp only [List.length_append, List.length_replicate, List.length_reverse, List.length_map] at this
    omega
  clear h HT
  have e1 : wrap64 ((s : Int) + 1) = (s : Int) + 1 := w64 (by omega) (by omega)
  by_cases hlack : 0 < s + 1 - (Lib.decDigits m.natAbs).length
  · have K4 : ∀ W : World, Calls Tryd.prog 55 #[.string ⟨#[48]⟩, .int .i64 ((s + 1 - (Lib.decDigits m.natAbs).length : Nat) : Int)] W fun e w' => e = .returned (sL (List.replicate (s + 1 - (Lib.decDigits m.natAbs).length) 48)) ∧ w' = W := fun W => rep_any hlack (by omega)
    have hs0 : (0 : Int) < (s : Nat) := by omega
    have hzl : (List.replicate (s + 1 - (Lib.decDigits m.natAbs).length) (48 : UInt8)).length = s + 1 - (Lib.decDigits m.natAbs).length := List.length_replicate
    have h1 : wrap64 (wrap64 ((s : Int) + 1) - ((Lib.decDigits m.natAbs).length : Int)) = ((s + 1 - (Lib.decDigits m.natAbs).length : Nat) : Int) := by rw [e1, w64 (by omega) (by omega)]; omega
    have h2 : wrap64 (((List.replicate (s + 1 - (Lib.decDigits m.natAbs).length) (48 : UInt8)).length : Int) + ((Lib.decDigits m.natAbs).length : Int) - (s : Int)) = (((padded m.natAbs s).length - s : Nat) : Int) := by rw [hzl, w64 (by omega) (by omega)]; omega
    have key : ((⟨(List.replicate (s + 1 - (Lib.decDigits m.natAbs).length) (48 : UInt8)).toArray⟩ : ByteArray) ++ ⟨(Lib.decDigits m.natAbs).toArray⟩) = ⟨(((padded m.natAbs s).map bt).reverse).toArray⟩ := by rw [ba_app, hpad]
    have fin : (⟨(((padded m.natAbs s).map bt).reverse).toArray⟩ : ByteArray).extract 0 ((padded m.natAbs s).length - s) ++ ⟨#[46]⟩ ++ (⟨(((padded m.natAbs s).map bt).reverse).toArray⟩ : ByteArray).extract ((padded m.natAbs s).length - s) (⟨(((padded m.natAbs s).map bt).reverse).toArray⟩ : ByteArray).size = ⟨(body (padded m.natAbs s) s).toArray⟩ := by
      rw [ba_take, ba_drop, show (⟨#[46]⟩ : ByteArray) = ⟨([46] : List UInt8).toArray⟩ from rfl, ba_app, ba_app, prog_point hplen (by omega)]
    unfold decTx
    by_cases hneg : m < 0
    · rw [show decide (m < 0) = true from decide_eq_true hneg] at K2
      refine (tw_lpm K1 K2 K3 K4 h1 (by omega) (by omega) hs0 h2 (by omega) (by omega)).mono ?_
      rintro e w' ⟨rfl, hb⟩
      refine ⟨?_, hb⟩
      rw [key, fin, if_pos hneg, show (⟨#[45]⟩ : ByteArray) = ⟨([45] : List UInt8).toArray⟩ from rfl, ba_app]
      rfl
    · rw [show decide (m < 0) = false from decide_eq_false hneg] at K2
      refine (tw_lpa K1 K2 K3 K4 h1 (by omega) (by omega) hs0 h2 (by omega) (by omega)).mono ?_
      rintro e w' ⟨rfl, hb⟩
      refine ⟨?_, hb⟩
      rw [key, fin, if_neg hneg]
      rfl
  · have hk0 : s + 1 - (Lib.decDigits m.natAbs).length = 0 := by omega
    rw [hk0, List.replicate_zero, List.nil_append] at hpad
    rw [hk0, Nat.zero_add] at hll
    have key : (⟨(Lib.decDigits m.natAbs).toArray⟩ : ByteArray) = ⟨(((padded m.natAbs s).map bt).reverse).toArray⟩ := by rw [hpad]
    unfold decTx
    by_cases hs : s = 0
    · subst hs
      have h1 : ¬ 0 < wrap64 (1 - ((Lib.decDigits m.natAbs).length : Int)) := by rw [w64 (by omega) (by omega)]; omega
      have fin : (⟨(((padded m.natAbs 0).map bt).reverse).toArray⟩ : ByteArray) = ⟨(body (padded m.natAbs 0) 0).toArray⟩ := by rw [prog_whole]
      by_cases hneg : m < 0
      · rw [show decide (m < 0) = true from decide_eq_true hneg] at K2
        refine (tw_nwm K1 K2 K3 h1 (by omega) (by omega)).mono ?_
        rintro e w' ⟨rfl, hb⟩
        refine ⟨?_, hb⟩
        rw [key, fin, if_pos hneg, show (⟨#[45]⟩ : ByteArray) = ⟨([45] : List UInt8).toArray⟩ from rfl, ba_app]
        rfl
      · rw [show decide (m < 0) = false from decide_eq_false hneg] at K2
        refine (tw_nwa K1 K2 K3 h1 (by omega) (by omega)).mono ?_
        rintro e w' ⟨rfl, hb⟩
        refine ⟨?_, hb⟩
        rw [key, fin, if_neg hneg]
        rfl
    · have hs0 : (0 : Int) < (s : Nat) := by omega
      have h1 : ¬ 0 < wrap64 (wrap64 ((s : Int) + 1) - ((Lib.decDigits m.natAbs).length : Int)) := by rw [e1, w64 (by omega) (by omega)]; omega
      have h2 : wrap64 (((Lib.decDigits m.natAbs).length : Int) - (s : Int)) = (((padded m.natAbs s).length - s : Nat) : Int) := by rw [w64 (by omega) (by omega)]; omega
      have fin : (⟨(((padded m.natAbs s).map bt).reverse).toArray⟩ : ByteArray).extract 0 ((padded m.natAbs s).length - s) ++ ⟨#[46]⟩ ++ (⟨(((padded m.natAbs s).map bt).reverse).toArray⟩ : ByteArray).extract ((padded m.natAbs s).length - s) (⟨(((padded m.natAbs s).map bt).reverse).toArray⟩ : ByteArray).size = ⟨(body (padded m.natAbs s) s).toArray⟩ := by
        rw [ba_take, ba_drop, show (⟨#[46]⟩ : ByteArray) = ⟨([46] : List UInt8).toArray⟩ from rfl, ba_app, ba_app, prog_point hplen (by omega)]
      by_cases hneg : m < 0
      · rw [show decide (m < 0) = true from decide_eq_true hneg] at K2
        refine (tw_npm K1 K2 K3 h1 hs0 h2 (by omega) (by omega)).mono ?_
        rintro e w' ⟨rfl, hb⟩
        refine ⟨?_, hb⟩
        rw [key, fin, if_pos hneg, show (⟨#[45]⟩ : ByteArray) = ⟨([45] : List UInt8).toArray⟩ from rfl, ba_app]
        rfl
      · rw [show decide (m < 0) = false from decide_eq_false hneg] at K2
        refine (tw_npa K1 K2 K3 h1 hs0 h2 (by omega) (by omega)).mono ?_
        rintro e w' ⟨rfl, hb⟩
        refine ⟨?_, hb⟩
        rw [key, fin, if_neg hneg]
        rfl
end Go.Proofs.YtmbjmgmnicacpaaDoor
