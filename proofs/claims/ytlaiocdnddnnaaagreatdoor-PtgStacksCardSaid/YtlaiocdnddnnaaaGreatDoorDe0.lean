/- What str.Get told is no longer than it may be; bytes.Equal; a slice of bytes between two bounds. No condition. -/
/- What Decode tells, plainly. No program, no condition. -/
import Derived.Test.YtlaiocdnddnnaaaGreatDoorPp12
import Derived.Test.YtlaiocdnddnnaaaGreatDoorGet
import Derived.Test.YtlaiocdnddnnaaaGreatDoorPut2
import Derived.Test.YtlaiocdnddnnaaaGreatDoorPs0
set_option linter.unusedVariables false
set_option linter.unusedSimpArgs false
namespace Go.Proofs.YtlaiocdnddnnaaaGreatDoor
open Go.RowKit
theorem jn_len : ∀ (us : List Int) (r : List UInt8), jn us = some r → r.length ≤ 4 * us.length
  | [], r, h => by simp only [jn, Option.some.injEq] at h; subst h; simp
  | [a], r, h => by
    unfold jn at h
    split at h
    · cases h
    · injection h with h; subst h
      simpa using enc_len a
  | a :: u :: us, r, h => by
    unfold jn at h
    split at h
    · rw [Option.map_eq_some_iff] at h; obtain ⟨q, hq, rfl⟩ := h; have h1 := jn_len us q hq; have h2 := enc_len (65536 + (a % 1024 * 1024 + u % 1024)); rw [List.length_append]; simp only [List.length_cons]; omega
    · split at h
      · cases h
      · rw [Option.map_eq_some_iff] at h; obtain ⟨q, hq, rfl⟩ := h; have h1 := jn_len (u :: us) q hq; have h2 := enc_len a; rw [List.length_append]; simp only [List.length_cons] at h1 ⊢; omega
theorem rdUs_len (l : List UInt8) (cs : List Int) : ∀ (k fl i : Nat), (rdUs l cs k fl i).1.length ≤ k
  | 0, fl, i => by simp [rdUs]
  | k + 1, fl, i => by
    rw [rdUs]
    split
    · split
      · simp only [List.length_cons]; have := rdUs_len l cs k (rdA l cs fl i).1 (rdU1 l cs (rdA l cs fl i).1 (rdA l cs fl i).2.1).2.1; omega
      · simp
    · simp
theorem rdAll_len (l : List UInt8) (cs : List Int) (i : Nat) : (rdAll l cs i).1.length ≤ 1000 := by
  unfold rdAll
  split
  · split
    · simp
    · split
      · refine Nat.le_trans (rdUs_len l cs _ _ _) ?_; omega
      · simp
  · simp
theorem rdS_len (l : List UInt8) (cs : List Int) (i : Nat) : (rdS l cs i).1.length ≤ 4000 := by
  unfold rdS
  split
  · split
    · rename_i h
      obtain ⟨r, hr⟩ := Option.isSome_iff_exists.1 h; have h1 := jn_len _ _ hr; have h2 := rdAll_len l cs i; simp only [hr, Option.getD_some]; omega
    · simp
  · simp
theorem bequal_any {w : World} {B B' n c n' c' : Nat} {A A' : Option Addr} {l l' : List UInt8} (h : Rd w B 1 A n (l.map bv)) (h' : Rd w B' 1 A' n' (l'.map bv)) :
    Calls Tryz.prog 119 #[.slice A n c, .slice A' n' c'] w fun e w' => e = .returned (.bool (decide (l = l'))) ∧ w' = w := by
  have e1 := run_str (c := c) h; have e2 := run_str (c := c') h'; have e3 := strOf_eq l l'; go_enter Tryz.func119, Tryz.ntmps119; go_wp2; go_ret; exact ⟨rfl, rfl⟩
def advB (A : Option Addr) (c k : Nat) : Option Addr := if c = k then A else A.map (·.add (k * 1))
theorem run_lh (w : World) (A : Option Addr) (n c i j : Nat) (hi : i ≤ j) (hj : j ≤ c) : (Instr.sliceAt 35 (.slice A n c) (some (.int .i64 (i : Int))) (some (.int .i64 (j : Int))) none).run Tryz.prog w = .ok (.slice (advB A c i) (j - i) (c - i)) w := by
  unfold advB; have hu : Tryz.prog.underlying 35 = some (.slice (Tryz.prog.elem 35)) := by kernel_rfl
  rw [run_sliceAt_slice _ _ _ _ _ _ hu, run_slice_lh _ _ _ _ _ hu .i64 .i64 (i : Int) (j : Int) (by omega) (by omega) (by omega)]; have hs : (sizeOf (Tryz.prog.elem 35)).run Tryz.prog w = .ok 1 w := by kernel_rfl
  rw [hs]; simp [Result.andThen, sliced]
theorem rd_advB {w : World} {B n c i j : Nat} {A : Option Addr} {l : List UInt8} (h : Rd w B 1 A n (l.map bv)) (hi : i ≤ j) (hj : j ≤ n) (hn : n ≤ c) : Rd w B 1 (advB A c i) (j - i) (((l.drop i).take (j - i)).map bv) := by
  have := h.cut (i := i) (j := j) hi hj hn; rw [Nat.mul_one, Nat.mul_one] at this; rw [List.map_take, List.map_drop, advB, Nat.mul_one]; exact this
section
variable {o : Oper} {a : Act} {w W : World} {K : Act → World → Prop} {Q : Exit → Act → World → Prop} {t : TypeId}
theorem stop_sl (x : Operand) (l h m : Option Operand) (ho : o.op = .slice t x l h m) (H : Hid (o.wp Tryz.prog a W K Q)) : o.wp Tryz.prog a W K Q := H.out
theorem wp_lh {v X Y Z : Value} (x lo hi : Operand) (ho : o.op = .slice t x (some lo) (some hi) none) (hx : a.eval x = X) (hl : a.eval lo = Y) (hh : a.eval hi = Z)
    (hrun : (Instr.sliceAt t X (some Y) (some Z) none).run Tryz.prog W = .ok v W) (h : K (a.put o.dst v) W) : o.wp Tryz.prog a W K Q := by
  unfold Oper.wp; simp [execOp, ho, hx, hl, hh, hrun, Result.andThen]; exact h
end
end Go.Proofs.YtlaiocdnddnnaaaGreatDoor
namespace Go.Proofs.YtlaiocdnddnnaaaGreatDoor
def topT : List Tr → Tr
  | [t] => t
  | _ => .mk zp []
def deE (l : List UInt8) : Int := if (alT l).2.2.2 = 0 then (if (alT l).2.2.1.length = 1 then ckT oneE (topT (alT l).2.2.1) else 10) else (alT l).2.2.2
def deA (l : List UInt8) : Int := if (alT l).2.2.2 = 0 ∧ (alT l).2.2.1.length = 1 then 0 else ((alT l).1 : Nat)
def deR (l : List UInt8) : Tr := if deE l = 0 then topT (alT l).2.2.1 else .mk zp []
theorem st_vt (l : List UInt8) (i : Nat) : (stT l i).1.pay.vt.size ≤ 4000 := by
  have h := rdS_len l [] i; unfold stT
  split
  · split
    · show ((rdS l [] i).1.toArray).size ≤ 4000
      simpa using h
    · exact Nat.zero_le _
  · exact Nat.zero_le _
theorem sg_vt (m : Int) : (sgT m).pay.vt.size = 0 := by
  unfold sgT
  repeat' split
  all_goals rfl
theorem pl_vt (k : Int) (l : List UInt8) (i : Nat) : (plT k l i).pay.vt.size = 0 := by
  unfold plT; dsimp only
  repeat' split
  all_goals rfl
theorem pa_vt (m : Int) (l : List UInt8) (i : Nat) : (paT m l i).pay.vt.size = 0 := by
  unfold paT
  by_cases h1 : m = 31
  · rw [if_pos h1]; rfl
  rw [if_neg h1]
  by_cases h2 : m = 29
  · rw [if_pos h2]; split <;> rfl
  rw [if_neg h2]
  by_cases h3 : m = 28
  · rw [if_pos h3]; rfl
  rw [if_neg h3]
  by_cases h4 : m = 36
  · rw [if_pos h4]; exact pl_vt _ _ _
  rw [if_neg h4]
  by_cases h5 : m = 37
  · rw [if_pos h5]; exact pl_vt _ _ _
  rw [if_neg h5]
  by_cases h6 : m = 58
  · rw [if_pos h6]; exact pl_vt _ _ _
  rw [if_neg h6]
  by_cases h7 : m = 59
  · rw [if_pos h7]; exact pl_vt _ _ _
  rw [if_neg h7]
  by_cases h8 : m = 35
  · rw [if_pos h8]; rfl
  rw [if_neg h8]
  by_cases h9 : m = 34
  · rw [if_pos h9]; rfl
  rw [if_neg h9]; exact sg_vt m
theorem gt_vt (l : List UInt8) (i : Nat) : (gtT l i).1.pay.vt.size ≤ 4000 := by
  unfold gtT
  split
  · exact Nat.zero_le _
  · split
    · exact st_vt l _
    · split
      · exact Nat.zero_le _
      · rw [pa_vt]; exact Nat.zero_le _
theorem up_nd {g : Got} {ops : List Tr} {P : Pay → Prop} (h : ∀ q ∈ ndL ops, P q.1) (hg : P g.pay) : ∀ q ∈ ndL (upT g ops), P q.1 := by
  intro q hq
  have hs : ∀ x ∈ ndL (ops.take (ops.length - g.takes)) ++ ndL (ops.drop (ops.length - g.takes)), P x.1 := by
    rw [← nd_app, List.take_append_drop]; exact h
  unfold upT at hq; rw [nd_app, ndL, ndL, List.append_nil, ndT, List.mem_append, List.mem_cons] at hq
  rcases hq with hq | hq | hq
  · exact hs q (List.mem_append_left _ hq)
  · rw [hq]; exact hg
  · exact hs q (List.mem_append_right _ hq)
theorem up_cnt (g : Got) (ops : List Tr) : cntL (upT g ops) = cntL ops + 1 := by
  have h : cntL ops = cntL (ops.take (ops.length - g.takes)) + cntL (ops.drop (ops.length - g.takes)) := by rw [← cnt_app, List.take_append_drop]
  unfold upT; rw [cnt_app, h]; simp only [cntL, cntT]; omega
theorem go_inv (l : List UInt8) : ∀ (k i cnt : Nat) (ops : List Tr), cntL ops ≤ cnt → (∀ q ∈ ndL ops, q.1.vt.size ≤ 4000) →
    cntL (goT l k i cnt ops).2.2.1 ≤ (goT l k i cnt ops).2.1 ∧ (goT l k i cnt ops).2.1 ≤ cnt + k ∧ ∀ q ∈ ndL (goT l k i cnt ops).2.2.1, q.1.vt.size ≤ 4000
  | 0, i, cnt, ops, h1, h2 => ⟨h1, Nat.le_refl _, h2⟩
  | k + 1, i, cnt, ops, h1, h2 => by
    rw [goT]
    split
    · exact ⟨h1, by simp only; omega, h2⟩
    · split
      · have := go_inv l k (gtT l i).2 (cnt + 1) (upT (gtT l i).1 ops) (by rw [up_cnt]; omega) (up_nd (P := fun p => p.vt.size ≤ 4000) h2 (gt_vt l i)); exact ⟨this.1, by omega, this.2.2⟩
      · exact ⟨h1, by simp only; omega, h2⟩
theorem al_inv (l : List UInt8) : cntL (alT l).2.2.1 ≤ 4097 ∧ (alT l).2.1 ≤ 4097 ∧ ∀ q ∈ ndL (alT l).2.2.1, q.1.vt.size ≤ 4000 := by
  unfold alT
  split
  · simp [cntL, ndL]
  · have := go_inv l (l.length + 1) 0 0 [] (Nat.le_refl _) (fun q hq => by simp [ndL] at hq); exact ⟨by omega, by omega, this.2.2⟩
end Go.Proofs.YtlaiocdnddnnaaaGreatDoor
