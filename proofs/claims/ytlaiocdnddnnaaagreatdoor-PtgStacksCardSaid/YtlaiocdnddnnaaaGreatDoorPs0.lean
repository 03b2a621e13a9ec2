/- Tokens, plainly: which one stands at a place of bytes; a row of them read onto a stack of trees. No program, no condition. -/
/- PtgStacks, plainly: rows of tokens that push or take. No program, no condition. -/
import Derived.Test.YtlaiocdnddnnaaaGreatDoorNx
import Derived.Test.YtlaiocdnddnnaaaGreatDoorGet
import Derived.Test.YtlaiocdnddnnaaaGreatDoorPut2
import Derived.Test.YtlaiocdnddnnaaaGreatDoorCx
set_option linter.unusedVariables false
set_option linter.unusedSimpArgs false
namespace Go.Proofs.YtlaiocdnddnnaaaGreatDoor
structure Got where
  err : Int
  pay : Pay
  takes : Nat
def tu1 (l : List UInt8) (at_ : Nat) : Int := (numN (tkL l at_ 1) : Nat)
def tu2 (l : List UInt8) (at_ : Nat) : Int := (numN (tkL l at_ 2) : Nat)
def ti8 (l : List UInt8) (at_ : Nat) : Int := IntKind.i64.wrap (numN (tkL l at_ 8) : Nat)
def tNum (m s : Int) : Pay := { zp with kind := 1, vk := 1, vm := m, vs := s }
def tBool (b : Bool) : Pay := { zp with kind := 1, vk := 3, vb := b }
def tErr (e : Int) : Pay := { zp with kind := 1, vk := 4, ve := e }
def tStr (t : ByteArray) : Pay := { zp with kind := 1, vk := 2, vt := t }
def tOp (k o : Int) : Pay := { zp with kind := k, op := o }
def hasS (k : Int) : Bool := decide (k = 4 ∨ k = 5)
def hasA (k : Int) : Bool := decide (k = 3 ∨ k = 5)
def sgT (m : Int) : Got :=
  if m = 19 then ⟨0, tOp 7 1, 1⟩ else if m = 18 then ⟨0, tOp 7 2, 1⟩ else if m = 20 then ⟨0, tOp 7 3, 1⟩ else if m = 21 then ⟨0, tOp 10 0, 1⟩
  else if m - 2 < 1 ∨ 12 < m - 2 then ⟨2, zp, 0⟩ else ⟨0, tOp 8 (m - 2), 2⟩
def rfE (l : List UInt8) (at_ : Nat) : Int := if 3 < tu1 l (at_ + 3) then 2 else 0
def oddB (n : Int) : Bool := decide (n % 2 = 1)
def twoB (n : Int) : Bool := decide (2 ≤ n)
def plT (k : Int) (l : List UInt8) (at_ : Nat) : Got :=
  let s := if hasS k = true then tu1 l at_ else 0
  let a := if hasS k = true then at_ + 1 else at_
  if rfE l a = 0 then
    if hasA k = true then
      if rfE l (a + 4) = 0 then ⟨0, { zp with kind := k, sheet := s, r1 := tu2 l a, c1 := tu1 l (a + 2), x1 := oddB (tu1 l (a + 3)), y1 := twoB (tu1 l (a + 3)), r2 := tu2 l (a + 4), c2 := tu1 l (a + 6), x2 := oddB (tu1 l (a + 7)), y2 := twoB (tu1 l (a + 7)) }, 0⟩
      else ⟨2, zp, 0⟩
    else ⟨0, { zp with kind := k, sheet := s, r1 := tu2 l a, c1 := tu1 l (a + 2), x1 := oddB (tu1 l (a + 3)), y1 := twoB (tu1 l (a + 3)) }, 0⟩
  else ⟨2, zp, 0⟩
def szT (m : Int) : Int :=
  if m = 31 then 9 else if m = 29 ∨ m = 28 then 1 else if m = 36 then 4 else if m = 37 then 8 else if m = 58 then 5 else if m = 59 then 9 else if m = 35 ∨ m = 34 then 2 else 0
def paT (m : Int) (l : List UInt8) (at_ : Nat) : Got :=
  if m = 31 then ⟨0, tNum (ti8 l at_) (tu1 l (at_ + 8)), 0⟩
  else if m = 29 then if 1 < tu1 l at_ then ⟨2, zp, 0⟩ else ⟨0, tBool (decide (tu1 l at_ = 1)), 0⟩
  else if m = 28 then ⟨0, tErr (tu1 l at_), 0⟩
  else if m = 36 then plT 2 l at_ else if m = 37 then plT 3 l at_ else if m = 58 then plT 4 l at_ else if m = 59 then plT 5 l at_
  else if m = 35 then ⟨0, tOp 6 (tu2 l at_), 0⟩
  else if m = 34 then ⟨0, tOp 9 (tu1 l (at_ + 1)), (tu1 l at_).toNat⟩
  else sgT m
def stT (l : List UInt8) (at_ : Nat) : Got × Nat :=
  if (rdS l [] at_).2.2 = 0 then
    if putL [] (rdS l [] at_).1 = (l.drop at_).take ((rdS l [] at_).2.1 - at_) then (⟨0, tStr ⟨(rdS l [] at_).1.toArray⟩, 0⟩, (rdS l [] at_).2.1) else (⟨2, zp, 0⟩, at_)
  else (⟨(rdS l [] at_).2.2, zp, 0⟩, at_)
def gtT (l : List UInt8) (at_ : Nat) : Got × Nat :=
  if l.length ≤ at_ then (⟨5, zp, 0⟩, at_)
  else if tu1 l at_ = 23 then stT l (at_ + 1)
  else if (l.length : Int) - (at_ + 1 : Nat) < szT (tu1 l at_) then (⟨5, zp, 0⟩, at_)
  else (paT (tu1 l at_) l (at_ + 1), at_ + 1 + (szT (tu1 l at_)).toNat)
def upT (g : Got) (ops : List Tr) : List Tr := ops.take (ops.length - g.takes) ++ [.mk g.pay (ops.drop (ops.length - g.takes))]
def tkOpE (l : List UInt8) (at_ : Nat) (ops : List Tr) : Int := if (gtT l at_).1.err = 0 then (if ops.length < (gtT l at_).1.takes then 10 else 0) else (gtT l at_).1.err
def goT (l : List UInt8) : Nat → Nat → Nat → List Tr → Nat × Nat × List Tr × Int
  | 0, at_, n, ops => (at_, n, ops, 0)
  | k + 1, at_, n, ops =>
    if l.length ≤ at_ then (at_, n, ops, 0)
    else if tkOpE l at_ ops = 0 then goT l k (gtT l at_).2 (n + 1) (upT (gtT l at_).1 ops) else (at_, n, ops, tkOpE l at_ ops)
def alT (l : List UInt8) : Nat × Nat × List Tr × Int := if 4096 < l.length then (0, 0, [], 4) else goT l (l.length + 1) 0 0 []
theorem numN_pos_lt {l : List UInt8} {k : Nat} (h : l.length ≤ k) : numN l < 256 ^ k := Nat.lt_of_lt_of_le (numN_lt l) (Nat.pow_le_pow_right (by omega) h)
theorem tu1_bd (l : List UInt8) (i : Nat) : 0 ≤ tu1 l i ∧ tu1 l i < 256 := by
  have := numN_pos_lt (tkL_len l i 1); unfold tu1; simp at this; omega
theorem szT_bd (m : Int) : 0 ≤ szT m ∧ szT m ≤ 9 := by
  unfold szT
  repeat' split
  all_goals omega
theorem trdA_nil (l : List UInt8) (fl i : Nat) : rdA l [] fl i = (fl, i, 0) := by simp [rdA]
theorem rdU1_gt (l : List UInt8) (cs : List Int) (fl i : Nat) (h : (rdU1 l cs fl i).2.2 = 0) : i < (rdU1 l cs fl i).2.1 := by
  unfold rdU1 at h ⊢
  repeat' split at h
  all_goals simp_all
theorem rdUs_bds (l : List UInt8) : ∀ (k fl i : Nat), i ≤ l.length → (rdUs l [] k fl i).2.2 = 0 → i ≤ (rdUs l [] k fl i).2.1 ∧ (rdUs l [] k fl i).2.1 ≤ l.length
  | 0, fl, i, hi, _ => ⟨Nat.le_refl _, hi⟩
  | k + 1, fl, i, hi, h => by
    rw [rdUs, trdA_nil] at h ⊢; simp only [if_true] at h ⊢
    by_cases h1 : (rdU1 l [] fl i).2.2 = 0
    · rw [if_pos h1] at h ⊢; have h2 := rdU1_gt l [] fl i h1; have h3 := (rdU1_le l [] fl i hi).1; have := rdUs_bds l k fl _ h3 h; exact ⟨Nat.le_trans (Nat.le_of_lt h2) this.1, this.2⟩
    · rw [if_neg h1] at h; exact absurd h h1
theorem rdS_bds (l : List UInt8) (i : Nat) (h : (rdS l [] i).2.2 = 0) : i < (rdS l [] i).2.1 ∧ (rdS l [] i).2.1 ≤ l.length := by
  unfold rdS at h ⊢
  by_cases h1 : (rdAll l [] i).2.2 = 0
  · rw [if_pos h1] at h ⊢
    by_cases h2 : (jn (rdAll l [] i).1).isSome = true
    · rw [if_pos h2]; simp only; unfold rdAll at h1 ⊢
      split at h1
      · split at h1
        · cases h1
        · split at h1
          · rename_i h3 h4 h5
            rw [if_pos h3, if_neg h4, if_pos h5]; have := rdF_at l (i + 2) h5; have := rdUs_bds l _ _ _ (rdF_le l (i + 2) (by omega)).1 h1; omega
          · exact absurd h1 (by assumption)
      · cases h1
    · rw [if_neg h2] at h
      cases h
  · rw [if_neg h1] at h; exact absurd h h1
theorem gtT_bds (l : List UInt8) (i : Nat) (h : (gtT l i).1.err = 0) : i < (gtT l i).2 ∧ (gtT l i).2 ≤ l.length := by
  unfold gtT at h ⊢
  by_cases h1 : l.length ≤ i
  · rw [if_pos h1] at h; cases h
  · rw [if_neg h1] at h ⊢
    by_cases h2 : tu1 l i = 23
    · rw [if_pos h2] at h ⊢; unfold stT at h ⊢
      by_cases h3 : (rdS l [] (i + 1)).2.2 = 0
      · rw [if_pos h3] at h ⊢
        split at h
        · rename_i h4
          rw [if_pos h4]; have := rdS_bds l (i + 1) h3; exact ⟨by simp only; omega, this.2⟩
        · cases h
      · rw [if_neg h3] at h; exact absurd h h3
    · rw [if_neg h2] at h ⊢; have := szT_bd (tu1 l i)
      by_cases h3 : (l.length : Int) - (i + 1 : Nat) < szT (tu1 l i)
      · rw [if_pos h3] at h; cases h
      · rw [if_neg h3]; simp only; omega
theorem sgT_takes (m : Int) : (sgT m).takes ≤ 255 := by
  unfold sgT
  repeat' split
  all_goals simp
theorem plT_takes (k : Int) (l : List UInt8) (i : Nat) : (plT k l i).takes ≤ 255 := by
  unfold plT; dsimp only
  repeat' split
  all_goals simp
theorem paT_takes (m : Int) (l : List UInt8) (i : Nat) : (paT m l i).takes ≤ 255 := by
  have h := tu1_bd l i; unfold paT
  by_cases h1 : m = 31
  · rw [if_pos h1]; simp
  rw [if_neg h1]
  by_cases h2 : m = 29
  · rw [if_pos h2]; split <;> simp
  rw [if_neg h2]
  by_cases h3 : m = 28
  · rw [if_pos h3]; simp
  rw [if_neg h3]
  by_cases h4 : m = 36
  · rw [if_pos h4]; exact plT_takes _ _ _
  rw [if_neg h4]
  by_cases h5 : m = 37
  · rw [if_pos h5]; exact plT_takes _ _ _
  rw [if_neg h5]
  by_cases h6 : m = 58
  · rw [if_pos h6]; exact plT_takes _ _ _
  rw [if_neg h6]
  by_cases h7 : m = 59
  · rw [if_pos h7]; exact plT_takes _ _ _
  rw [if_neg h7]
  by_cases h8 : m = 35
  · rw [if_pos h8]; simp
  rw [if_neg h8]
  by_cases h9 : m = 34
  · rw [if_pos h9]; simp only; omega
  rw [if_neg h9]; exact sgT_takes m
theorem gtT_takes (l : List UInt8) (i : Nat) : (gtT l i).1.takes ≤ 255 := by
  unfold gtT stT
  repeat' split
  all_goals first | exact paT_takes _ _ _ | simp
end Go.Proofs.YtlaiocdnddnnaaaGreatDoor
namespace Go.Proofs.YtlaiocdnddnnaaaGreatDoor
def kB (n : Nat) : List UInt8 := if n = 0 then [29, 1] else if n = 1 then [21] else [3]
def kP (n : Nat) : Pay := if n = 0 then tBool true else if n = 1 then tOp 10 0 else tOp 8 1
def pushT (n : Nat) (ops : List Tr) : List Tr := ops.take (ops.length - n) ++ [.mk (kP n) (ops.drop (ops.length - n))]
def runK : List Nat → Nat → List Tr → Option Nat × List Tr
  | [], _, ops => (none, ops)
  | n :: l, at_, ops => if ops.length < n then (some at_, ops) else runK l (at_ + (kB n).length) (pushT n ops)
theorem tkE_in {n i k : Nat} (h : i + k ≤ n) : tkE i k n = 0 := by
  unfold tkE stB; rw [if_neg (by rw [decide_eq_true (by omega)]; simp), if_neg (by omega)]
theorem tkL_at (p q r : List UInt8) (k : Nat) (hk : q.length = k) : tkL (p ++ (q ++ r)) p.length k = q := by
  unfold tkL; rw [if_pos (tkE_in (by simp; omega))]; simp [hk]
theorem tu1_at (p r : List UInt8) (x : UInt8) : tu1 (p ++ x :: r) p.length = x.toNat := by
  unfold tu1; rw [show ((1 : Int)) = ((1 : Nat) : Int) from rfl]; have h2 := tkL_at p [x] r 1 rfl; simp only [List.cons_append, List.nil_append] at h2; rw [h2]; simp [numN]
theorem tu1_next (p r : List UInt8) (x y : UInt8) : tu1 (p ++ x :: y :: r) (p.length + 1) = y.toNat := by
  have := tu1_at (p ++ [x]) r y
  simpa using this
theorem gt_k (p q : List UInt8) {n : Nat} (hn : n < 3) : gtT (p ++ (kB n ++ q)) p.length = (⟨0, kP n, n⟩, p.length + (kB n).length) := by
  unfold gtT
  match n, hn with
  | 0, _ =>
    have e1 := tu1_at p (1 :: q) 29; have e2 := tu1_next p q 29 1; simp only [kB, if_true, List.cons_append, List.nil_append]; rw [if_neg (by simp), e1, if_neg (by decide)]; rw [if_neg (by simp [szT]; omega)]; simp [paT, e2, szT, kP]
  | 1, _ =>
    have e1 := tu1_at p q 21; rw [show kB 1 = [21] from rfl, List.singleton_append]; rw [if_neg (by simp), e1, if_neg (by decide)]; rw [if_neg (by simp [szT]; omega)]; simp [paT, sgT, szT, kP]
  | 2, _ =>
    have e1 := tu1_at p q 3; rw [show kB 2 = [3] from rfl, List.singleton_append]; rw [if_neg (by simp), e1, if_neg (by decide)]; rw [if_neg (by simp [szT]; omega)]; simp [paT, sgT, szT, kP]
theorem go_k : ∀ (l : List Nat) (p : List UInt8) (k cnt : Nat) (ops : List Tr), (∀ n ∈ l, n < 3) → l.length < k →
    goT (p ++ l.flatMap kB) k p.length cnt ops = match runK l p.length ops with
      | (none, o) => ((p ++ l.flatMap kB).length, cnt + l.length, o, 0)
      | (some a, o) => (a, (goT (p ++ l.flatMap kB) k p.length cnt ops).2.1, o, 10)
  | [], p, k + 1, cnt, ops, _, _ => by
    simp [runK, goT]
  | n :: l, p, k + 1, cnt, ops, hl, hk => by
    have hn := hl n (List.mem_cons_self ..); have hg := gt_k p (l.flatMap kB) hn
    have hb : 1 ≤ (kB n).length := by
      unfold kB
      split
      · simp
      · split <;> simp
    have e0 : (p ++ (n :: l).flatMap kB) = p ++ (kB n ++ l.flatMap kB) := by simp
    have e1 : p ++ (kB n ++ l.flatMap kB) = (p ++ kB n) ++ l.flatMap kB := by simp
    rw [e0]
    have hs : goT (p ++ (kB n ++ l.flatMap kB)) (k + 1) p.length cnt ops = if ops.length < n then (p.length, cnt, ops, 10) else goT (p ++ (kB n ++ l.flatMap kB)) k (p.length + (kB n).length) (cnt + 1) (pushT n ops) := by
      rw [goT, if_neg (by simp; omega), tkOpE, hg]; simp only [if_true]
      by_cases h : ops.length < n
      · rw [if_pos h, if_neg (by decide), if_pos h]
      · rw [if_neg h, if_pos rfl, if_neg h]; rfl
    rw [hs, runK]
    by_cases h : ops.length < n
    · rw [if_pos h, if_pos h]
    · rw [if_neg h, if_neg h]; have ih := go_k l (p ++ kB n) k (cnt + 1) (pushT n ops) (fun m hm => hl m (List.mem_cons_of_mem _ hm)) (by simp at hk; omega); rw [← e1, List.length_append] at ih; rw [ih]
      cases hr : runK l (p.length + (kB n).length) (pushT n ops) with
      | mk a o =>
        cases a with
        | none => simp; omega
        | some a => simp
def NdK (q : Pay × Nat) : Prop := ∃ n, n < 3 ∧ q = (kP n, n)
theorem push_nd {n : Nat} {ops : List Tr} (hn : n < 3) (hl : n ≤ ops.length) (h : ∀ q ∈ ndL ops, NdK q) : ∀ q ∈ ndL (pushT n ops), NdK q := by
  intro q hq
  have hs : ∀ x ∈ ndL (ops.take (ops.length - n)) ++ ndL (ops.drop (ops.length - n)), NdK x := by
    rw [← nd_app, List.take_append_drop]; exact h
  unfold pushT at hq; rw [nd_app, ndL, ndL, List.append_nil, ndT, List.mem_append, List.mem_cons] at hq
  rcases hq with hq | hq | hq
  · exact hs q (List.mem_append_left _ hq)
  · exact ⟨n, hn, by rw [hq, List.length_drop]; congr 1; omega⟩
  · exact hs q (List.mem_append_right _ hq)
theorem push_dp {n : Nat} {ops : List Tr} (hl : n ≤ ops.length) : dpL (pushT n ops) = max (dpL ops) (dpL (ops.drop (ops.length - n)) + 1) := by
  have h : dpL ops = max (dpL (ops.take (ops.length - n))) (dpL (ops.drop (ops.length - n))) := by rw [← dp_app, List.take_append_drop]
  unfold pushT; rw [dp_app, h]; simp only [dpL, dpT]; omega
theorem push_len {n : Nat} {ops : List Tr} (hl : n ≤ ops.length) : (pushT n ops).length = ops.length - n + 1 := by
  unfold pushT; simp
theorem push_cnt {n : Nat} {ops : List Tr} (hl : n ≤ ops.length) : cntL (pushT n ops) = cntL ops + 1 := by
  have h : cntL ops = cntL (ops.take (ops.length - n)) + cntL (ops.drop (ops.length - n)) := by rw [← cnt_app, List.take_append_drop]
  unfold pushT; rw [cnt_app, h]; simp only [cntL, cntT]; omega
end Go.Proofs.YtlaiocdnddnnaaaGreatDoor
