/- What is left of a division, plainly: its sign, how great, and that so many whole ones make the number again. No program; no condition. -/
/- A drawn region that makes a box of its own beside Args just made: what is kept. No condition. -/
import Derived.Test.YtngkolcpbgibcaaGreatDoorKb
import Derived.Test.YtngkolcpbgibcaaGreatDoorWide
import Derived.Test.YtngkolcpbgibcaaGreatDoorKd
set_option linter.unusedVariables false
set_option linter.unusedSimpArgs false
namespace Go.Proofs.YtngkolcpbgibcaaGreatDoor
structure Sh (m : Int) (s : Nat) : Prop where
  gd : Gd m s
  s3 : s ≤ 3
  m31 : m.natAbs ≤ 2147483648
theorem pow_le3 {k : Nat} (h : k ≤ 3) : (10 : Int) ^ k ≤ 1000 ∧ 1 ≤ (10 : Int) ^ k := by
  rcases (show k = 0 ∨ k = 1 ∨ k = 2 ∨ k = 3 by omega) with rfl | rfl | rfl | rfl <;> decide
theorem scaled_bd {m : Int} {k : Nat} (h : m.natAbs ≤ 2147483648) (hk : k ≤ 3) : (m * 10 ^ k).natAbs ≤ 2147483648000 := by
  rw [natAbs_pow10]; have : 10 ^ k ≤ 1000 := by rcases (show k = 0 ∨ k = 1 ∨ k = 2 ∨ k = 3 by omega) with rfl | rfl | rfl | rfl <;> decide
  calc m.natAbs * 10 ^ k ≤ 2147483648 * 1000 := Nat.mul_le_mul h this
    _ = 2147483648000 := by decide
theorem val_at {m : Int} {s M : Nat} (hs : s ≤ M) (hM : M ≤ 9) : val m s = m * 10 ^ (M - s) * 10 ^ (9 - M) := by
  unfold val; rw [Int.mul_assoc, ← Int.pow_add]
  congr 2
  omega
theorem modQ_spec {a b : Int} (hb : b ≠ 0) : (modQ a b = 0 ∨ (0 < modQ a b ↔ 0 < b)) ∧ (modQ a b).natAbs < b.natAbs ∧ ∃ K : Int, a - modQ a b = K * b ∧ K.natAbs ≤ a.natAbs + 1 := by
  have h1 := tmod_bd (a := a) hb; have h2 := Int.tmod_add_tdiv_mul a b; have h3 : (a.tdiv b).natAbs ≤ a.natAbs := by rw [Int.natAbs_tdiv]; exact Nat.div_le_self _ _
  unfold modQ
  split
  · rename_i h
    obtain ⟨h4, h5⟩ := h; refine ⟨?_, ?_, a.tdiv b - 1, ?_, by omega⟩
    · right
      by_cases hn : b < 0
      · have : ¬ a.tmod b < 0 := fun h => h5 (by simp [h, hn]); omega
      · have : a.tmod b < 0 := Decidable.byContradiction fun h => h5 (by simp [h, hn]); omega
    · by_cases hn : b < 0
      · have : ¬ a.tmod b < 0 := fun h => h5 (by simp [h, hn]); omega
      · have : a.tmod b < 0 := Decidable.byContradiction fun h => h5 (by simp [h, hn]); omega
    · rw [Int.sub_mul]; omega
  · rename_i h
    refine ⟨?_, by omega, a.tdiv b, by omega, by omega⟩
    by_cases h4 : a.tmod b = 0
    · exact .inl h4
    · right
      have h5 : decide (a.tmod b < 0) = decide (b < 0) := Decidable.byContradiction fun h6 => h ⟨h4, h6⟩; rw [decide_eq_decide] at h5; omega
theorem cmp_of {x y : Int} : (x < y → cmp x y = -1) ∧ (x = y → cmp x y = 0) ∧ (y < x → cmp x y = 1) := by
  unfold cmp; refine ⟨fun h => by rw [if_pos h], fun h => by rw [if_neg (by omega), if_pos h], fun h => by rw [if_neg (by omega), if_neg (by omega)]⟩
theorem mod_spec {m n : Int} {s t : Nat} (hx : Sh m s) (hy : Sh n t) (hn : n ≠ 0) :
    ∃ (rm : Int) (rs : Nat) (dm : Int) (ds : Nat) (K : Int), modX m s n t = .num rm rs ∧ Gd rm rs ∧ Gd dm ds ∧ Gd K 0 ∧
      (cmp (val rm rs) (val 0 0) = 0 ∨ cmp (val rm rs) (val 0 0) = cmp (val n t) (val 0 0)) ∧
      (0 < cmp (val n t) (val 0 0) → cmp (val rm rs) (val n t) < 0) ∧ (cmp (val n t) (val 0 0) < 0 → 0 < cmp (val rm rs) (val n t)) ∧ cmp (val n t) (val 0 0) ≠ 0 ∧
      subD m s rm rs = ⟨dm, ds, 0⟩ ∧ divX dm ds n t = ⟨K, 0, 0⟩ ∧ mulD K 0 n t = ⟨dm, ds, 0⟩ := by
  obtain ⟨M, hM⟩ : ∃ M, M = max s t := ⟨_, rfl⟩
  have hs3 := hx.s3; have ht3 := hy.s3; have hsM : s ≤ M := by omega
  have htM : t ≤ M := by omega
  have hM3 : M ≤ 3 := by omega
  have hA := scaled_bd hx.m31 (show M - s ≤ 3 by omega); have hB := scaled_bd hy.m31 (show M - t ≤ 3 by omega); have eA : divX m s 1 M = ⟨m * 10 ^ (M - s), 0, 0⟩ := by rw [scaled_val hsM (by omega), tl_whole, if_pos (by omega)]
  have eB : divX n t 1 M = ⟨n * 10 ^ (M - t), 0, 0⟩ := by rw [scaled_val htM (by omega), tl_whole, if_pos (by omega)]
  have vA : val m s = m * 10 ^ (M - s) * 10 ^ (9 - M) := val_at hsM (by omega); have vB : val n t = n * 10 ^ (M - t) * 10 ^ (9 - M) := val_at htM (by omega)
  have nB : n * 10 ^ (M - t) ≠ 0 := by
    have := (pow_le3 (show M - t ≤ 3 by omega)).2; intro h
    rcases Int.mul_eq_zero.1 h with h | h <;> omega
  have eR : modX m s n t = .num (tl (modQ (m * 10 ^ (M - s)) (n * 10 ^ (M - t))) M).m (tl (modQ (m * 10 ^ (M - s)) (n * 10 ^ (M - t))) M).s := by
    unfold modX; rw [← hM, eA, eB, if_neg hn, if_neg (by simp), if_neg (by simp)]
  obtain ⟨q1, q2, K, q3, q4⟩ := modQ_spec (a := m * 10 ^ (M - s)) nB; have eN : n * 10 ^ (M - t) = n * 10 ^ (M - t) := rfl; generalize hb : n * 10 ^ (M - t) = B at *; generalize ha : m * 10 ^ (M - s) = A at *; generalize modQ A B = R at *; have eR0 : (tl R M).e = 0 := tl_small (by omega); obtain ⟨gR, vR⟩ := tl_ok (show M ≤ 9 by omega) eR0; have eD0 : (tl (K * B) M).e = 0 := tl_small (by rw [← q3]; omega); obtain ⟨gD, vD⟩ := tl_ok (show M ≤ 9 by omega) eD0; have hP : (0 : Int) < 10 ^ (9 - M) := Int.pow_pos (by omega); have z0 : val 0 0 = 0 * 10 ^ (9 - M) := by unfold val; simp
  refine ⟨(tl R M).m, (tl R M).s, (tl (K * B) M).m, (tl (K * B) M).s, K, eR, gR, gD, ⟨by omega, by omega, by omega, .inl rfl⟩, ?_, ?_, ?_, ?_, ?_, ?_, ?_⟩
  · rw [vR, vB, z0, cmp_mul, cmp_mul]; obtain ⟨a1, a2, a3⟩ := cmp_of (x := R) (y := 0); obtain ⟨b1, b2, b3⟩ := cmp_of (x := B) (y := 0)
    rcases q1 with q1 | q1
    · exact .inl (a2 q1)
    · by_cases h : R = 0
      · exact .inl (a2 h)
      · right
        by_cases h0 : 0 < R
        · rw [a3 h0, b3 (q1.1 h0)]
        · rw [a1 (by omega), b1 (by omega)]
  · rw [vR, vB, z0, cmp_mul, cmp_mul]; intro h; have := (cmp_of (x := B) (y := 0)).1
    have hB0 : 0 < B := by
      by_cases h0 : 0 < B
      · exact h0
      · have := this (by omega); omega
    rw [(cmp_of (x := R) (y := B)).1 (by omega)]
    decide
  · rw [vR, vB, z0, cmp_mul, cmp_mul]; intro h; have := (cmp_of (x := B) (y := 0)).2.2
    have hB0 : B < 0 := by
      by_cases h0 : B < 0
      · exact h0
      · have := this (by omega); omega
    rw [(cmp_of (x := R) (y := B)).2.2 (by omega)]
    decide
  · rw [vB, z0, cmp_mul]; intro h; exact nB ((cmp_zero _ _).1 h)
  · show tl (val m s - val (tl R M).m (tl R M).s) 9 = _
    rw [vA, vR, ← Int.sub_mul, q3]; have := tl_up (K * B) M (9 - M); rw [show M + (9 - M) = 9 by omega] at this; rw [this]; generalize tl (K * B) M = r at *; obtain ⟨a, b, c⟩ := r; subst eD0; rfl
  · have hs9 := gD.s9
    have e1 : (tl (K * B) M).m * 10 ^ (9 + t - (tl (K * B) M).s) = K * 10 ^ 9 * n := by
      have e2 : (10 : Int) ^ (9 + t - (tl (K * B) M).s) = 10 ^ (9 - (tl (K * B) M).s) * 10 ^ t := by rw [← Int.pow_add]; congr 1; omega
      have e3 : (tl (K * B) M).m * 10 ^ (9 - (tl (K * B) M).s) = K * B * 10 ^ (9 - M) := vD; have e4 : (10 : Int) ^ (M - t) * 10 ^ (9 - M) * 10 ^ t = 10 ^ 9 := by rw [← Int.pow_add, ← Int.pow_add]; congr 1; omega
      rw [e2, ← Int.mul_assoc, e3, ← hb, show K * (n * 10 ^ (M - t)) * 10 ^ (9 - M) * 10 ^ t = K * n * (10 ^ (M - t) * 10 ^ (9 - M) * 10 ^ t) by simp only [Int.mul_assoc], e4, Int.mul_assoc, Int.mul_comm n, ← Int.mul_assoc]
    have e5 : (tl (K * B) M).m.natAbs * 10 ^ (9 + t - (tl (K * B) M).s) = K.natAbs * 10 ^ 9 * n.natAbs := by
      rw [← natAbs_pow10, e1, Int.natAbs_mul, natAbs_pow10]
    have e6 : decide ((tl (K * B) M).m < 0) = decide (K * 10 ^ 9 * n < 0) := by
      rw [← e1, decide_eq_decide]; exact (neg_pow10 _ _).symm
    unfold divX; rw [if_neg hn]; unfold divD; rw [e5, quo_exact _ _ (by omega), e6]
    have e7 : sgn (decide (K * 10 ^ 9 * n < 0) != decide (n < 0)) (K.natAbs * 10 ^ 9) = K * 10 ^ 9 := by
      by_cases h0 : K = 0
      · subst h0; simp only [Int.natAbs_zero, Nat.zero_mul, Int.zero_mul]; unfold sgn
        split <;> rfl
      · have hK9 : (K * 10 ^ 9 < 0) ↔ K < 0 := neg_pow10 K 9; have h9 : K * 10 ^ 9 = K * 1000000000 := rfl; have h9' : K.natAbs * 10 ^ 9 = K.natAbs * 1000000000 := rfl; rw [h9, h9'] at *
        by_cases hn0 : n < 0
        · by_cases hk : K < 0
          · have : ¬ K * 1000000000 * n < 0 := by
              have := Int.mul_pos_of_neg_of_neg (show K * 1000000000 < 0 by omega) hn0; omega
            simp only [this, hn0, decide_true, decide_false, sgn]; simp; omega
          · have : K * 1000000000 * n < 0 := Int.mul_neg_of_pos_of_neg (by omega) hn0; simp only [this, hn0, decide_true, sgn]; simp; omega
        · by_cases hk : K < 0
          · have : K * 1000000000 * n < 0 := Int.mul_neg_of_neg_of_pos (by omega) (by omega); simp only [this, hn0, decide_true, decide_false, sgn]; simp; omega
          · have : ¬ K * 1000000000 * n < 0 := by
              have := Int.mul_nonneg (show 0 ≤ K * 1000000000 by omega) (show 0 ≤ n by omega); omega
            simp only [this, hn0, decide_false, sgn]; simp; omega
    rw [e7]; have := tl_up K 0 9; rw [show 0 + 9 = 9 from rfl] at this; rw [this, tl_whole, if_pos (by omega)]
  · unfold mulD; rw [show 0 + t - 9 = 0 by omega, rndI_zero, show min (0 + t) 9 = t by omega]; have := tl_up (K * n) t (M - t); rw [show t + (M - t) = M by omega, Int.mul_assoc, hb] at this; rw [← this]; generalize tl (K * B) M = r at *; obtain ⟨a, b, c⟩ := r; subst eD0; rfl
end Go.Proofs.YtngkolcpbgibcaaGreatDoor
namespace Go.Proofs.YtngkolcpbgibcaaGreatDoor
open Go.RowKit
def KB (W W' : World) : Prop := W.heap.size ≤ W'.heap.size ∧ ∀ g T cs, Bk W g T cs → (T = 32 → cs ≠ (vc .blank).toArray) → Bk W' g T cs
theorem KB.refl (W : World) : KB W W := ⟨Nat.le_refl _, fun _ _ _ h _ => h⟩
theorem KB.of_below {W W' : World} (h : Below W.heap.size W W') : KB W W' := ⟨h.size, fun _ _ _ hb _ => hb.below h hb.lt⟩
theorem bk_inj {W : World} {g : Nat} {T T' : TypeId} {cs cs' : Array Value} (h : Bk W g T cs) (h' : Bk W g T' cs') : T = T' ∧ cs = cs' := by
  unfold Bk at h h'; rw [h] at h'; injection h' with h'; injection h' with h1 h2; exact ⟨h2, h1⟩
theorem KB.of_store {W W' : World} {g : Nat} (h : Bk W g 32 (vc .blank).toArray) (hK : Keep (fun i => i = g) W W') : KB W W' := by
  refine ⟨hK.size, fun g' T cs hb hn => hK.bk hb fun e => ?_⟩; subst e; obtain ⟨rfl, rfl⟩ := bk_inj hb h; exact hn rfl rfl
theorem num_nb {m : Int} {s : Nat} : (vc (.num m s)).toArray ≠ (vc .blank).toArray := by
  intro h; have := congrArg (·[0]?) h; simp [vc] at this
def OneN (m : Int) (s : Nat) (u : Value) (W : World) : Prop := ∃ g, u = .agg (ac false (some ⟨g, 0, none⟩) 1 1).toArray ∧ Bk W g 32 (vc (.num m s)).toArray
def TwoN (m : Int) (s : Nat) (n : Int) (t : Nat) (u : Value) (W : World) : Prop := ∃ q a b, u = .slice (some ⟨q, 0, none⟩) 2 2 ∧ Bk W q 55 (ac false (some ⟨a, 0, none⟩) 1 1 ++ ac false (some ⟨b, 0, none⟩) 1 1).toArray ∧ Bk W a 32 (vc (.num m s)).toArray ∧ Bk W b 32 (vc (.num n t)).toArray
theorem onen_stable {m : Int} {s : Nat} : Stable KB (OneN m s) := by
  rintro u W W' h ⟨g, rfl, hb⟩; exact ⟨g, rfl, h.2 _ _ _ hb fun _ => num_nb⟩
theorem twon_stable {m n : Int} {s t : Nat} : Stable KB (TwoN m s n t) := by
  rintro u W W' h ⟨q, a, b, rfl, hq, ha, hb⟩; exact ⟨q, a, b, rfl, h.2 _ _ _ hq (fun e => by cases e), h.2 _ _ _ ha fun _ => num_nb, h.2 _ _ _ hb fun _ => num_nb⟩
theorem TwoN.row {m n : Int} {s t : Nat} {u : Value} {W : World} (h : TwoN m s n t u W) : ∃ q, u = .slice (some ⟨q, 0, none⟩) 2 2 ∧ RowF argF W (· < W.heap.size) (some ⟨q, 0, none⟩) 2 [(false, [.num m s]), (false, [.num n t])] := by
  obtain ⟨q, a, b, rfl, hq, ha, hb⟩ := h; refine ⟨q, rfl, row_args (L := [(.agg (ac false (some ⟨a, 0, none⟩) 1 1).toArray, (false, [.num m s])), (.agg (ac false (some ⟨b, 0, none⟩) 1 1).toArray, (false, [.num n t]))]) (fun p hp => ?_) (by simpa [agCs] using hq)⟩; simp only [List.mem_cons, List.not_mem_nil, or_false] at hp
  rcases hp with rfl | rfl
  · exact argv_one ha
  · exact argv_one hb
theorem run_bsn {o : Oper} {a : Act} {W : World} {m n : Int} {s t p q : Nat} (h1 : OneN m s (a.tmps.getD p undef) W) (h2 : OneN n t (a.tmps.getD q undef) W) (ho : o.op = .buildSlice 34 2 #[(0, .tmp p), (1, .tmp q)]) :
    ∃ W', (execOp a.eval o).run Tryz.prog W = .ok (.value (.slice (some ⟨W.heap.size, 0, none⟩) 2 2)) W' ∧ Below W.heap.size W W' ∧ TwoN m s n t (.slice (some ⟨W.heap.size, 0, none⟩) 2 2) W' := by
  obtain ⟨ga, ea, ha⟩ := h1; obtain ⟨gb, eb, hb⟩ := h2; have f1 : a.eval (.tmp p) = .agg (ac false (some ⟨ga, 0, none⟩) 1 1).toArray := ea; have f2 : a.eval (.tmp q) = .agg (ac false (some ⟨gb, 0, none⟩) 1 1).toArray := eb; have hbel := bel0 W (.cells (ac false (some ⟨ga, 0, none⟩) 1 1 ++ ac false (some ⟨gb, 0, none⟩) 1 1).toArray 55); refine ⟨W.alloc (.cells (ac false (some ⟨ga, 0, none⟩) 1 1 ++ ac false (some ⟨gb, 0, none⟩) 1 1).toArray 55), ?_, hbel, ⟨_, ga, gb, rfl, Bk.new _ _ _, ha.below hbel ha.lt, hb.below hbel hb.lt⟩⟩; unfold execOp; rw [ho]; simp only [List.map_toArray, List.map_cons, List.map_nil, f1, f2]; clear ho f1 f2 ea eb hbel ha hb; simp only [ac]; go_simp
theorem lands_bsn {o : Oper} {a : Act} {W : World} {m n : Int} {s t p q : Nat} {S : World → Prop} {E : World → World → Prop} {R : Value → World → Prop} (h1 : OneN m s (a.tmps.getD p undef) W) (h2 : OneN n t (a.tmps.getD q undef) W) (ho : o.op = .buildSlice 34 2 #[(0, .tmp p), (1, .tmp q)])
    (h : ∀ W' v, Below W.heap.size W W' → TwoN m s n t v W' → R v W' ∧ S W' ∧ E W W') : Lands Tryz.prog S E R W ((execOp a.eval o).run Tryz.prog W) := by
  obtain ⟨W', hr, hb, ht⟩ := run_bsn h1 h2 ho; exact lands_v hr (h W' _ hb ht)
def SA (w : World) (B : Bxs) (r : VX) (vals : List Value) (W : World) : Prop := match vals with
  | [] => BX w B W
  | [v] => ∃ g, v = .pointer (some ⟨g, 0, none⟩) ∧ BX w ((g, 32, vc .blank) :: B) W
  | v :: _ :: _ => ∃ g, v = .pointer (some ⟨g, 0, none⟩) ∧ BX w ((g, 32, vc r) :: B) W
section
variable {w W W' : World} {B : Bxs} {r : VX} {vals : List Value}
theorem BX.dropt {b : Nat × TypeId × List Value} (h : BX w (b :: B) W) : BX w B W :=
  ⟨h.bel, fun b hm => h.lo b (List.mem_cons_of_mem _ hm), fun b hm => h.bk b (List.mem_cons_of_mem _ hm), (List.nodup_cons.1 h.nd).2⟩
theorem SA.old (h : SA w B r vals W) : BX w B W := by
  match vals, h with
  | [], h => exact h
  | [_], ⟨_, _, h⟩ => exact h.dropt
  | _ :: _ :: _, ⟨_, _, h⟩ => exact h.dropt
theorem SA.call (h : SA w B r vals W) (hb : Below W.heap.size W W') : SA w B r vals W' := by
  match vals, h with
  | [], h => exact BX.call h hb
  | [_], ⟨g, e, h⟩ => exact ⟨g, e, h.call hb⟩
  | _ :: _ :: _, ⟨g, e, h⟩ => exact ⟨g, e, h.call hb⟩
end
theorem lands_stk {o : Oper} {a : Act} {w W : World} {g i : Nat} {ty : TypeId} {cs vs : List Value} {bs : Bxs} {S : World → Prop} {E : World → World → Prop} {R : Value → World → Prop} (T : RowT ty vs.length) (h1 : ∀ u ∈ vs, u.oneCell' = true) (H : BX w bs W) (hi : bs[i]? = some (g, ty, cs)) (hl : cs.length = vs.length) (x y : Operand) (ho : o.op = .store ty x y) (hx : a.eval x = .pointer (some ⟨g, 0, none⟩)) (hy : a.eval y = .agg vs.toArray)
    (h : ∀ W', BX w (bs.set i (g, ty, vs)) W' → Keep (fun j => j = g) W W' → R undef W' ∧ S W' ∧ E W W') : Lands Tryz.prog S E R W ((execOp a.eval o).run Tryz.prog W) := by
  have hb := H.get hi
  have ht : W.there g 0 vs.toArray.size := fun j hj => by
    rw [List.size_toArray] at hj; rw [Nat.zero_add, hb.cell, hb.frozen]; exact ⟨by simp; omega, rfl⟩
  have hr : (execOp a.eval o).run Tryz.prog W = .ok .skip (W.setCells g 0 vs) := by
    unfold execOp; simp only [ho, hx, hy, Instr.storeAt, Instr.sureAddr, Sem.run_bind, Sem.run_pure, Result.andThen_ok, run_storeVar_mid W g 0 ty vs.toArray ht (by rw [List.size_toArray]; exact T.size) (all_oneCell_toArray h1)]
  rw [hr]; have h2 := setCells_bk vs 0 cs W hb (by omega); have e : cs.take 0 ++ vs ++ cs.drop (0 + vs.length) = vs := by simp [List.drop_eq_nil_of_le (Nat.le_of_eq hl)]
  rw [e] at h2; exact h _ (H.turn hi h2 (setCells_keep _ _ _)) (setCells_keep _ _ _)
theorem ldv_cells {w W : World} {bs : Bxs} {i g : Nat} {m : Int} {s : Nat} (h : BX w bs W) (hi : bs[i]? = some (g, 32, vc (.num m s))) : ∀ (j : Nat) (u : Value), (dc m (s : Nat))[j]? = some u → W.cell? ((⟨g, 1, none⟩ : Addr).add j) = some u := by
  intro j u hu; have e : (⟨g, 1, none⟩ : Addr).add j = ⟨g, 1 + j, none⟩ := by unfold Addr.add; split <;> simp_all
  rw [e, h.cell hi]
  match j, hu with
  | 0, hu => exact hu
  | 1, hu => exact hu
  | _ + 2, hu => simp [dc] at hu
theorem run_eq30 {o : Oper} {a : Act} {W : World} {x y : Operand} {m : Int} {s : Nat} (ho : o.op = .binOp .eql 30 x y 30) (hx : a.eval x = .agg (dc m s).toArray) (hy : a.eval y = .agg (dc m s).toArray) : (execOp a.eval o).run Tryz.prog W = .ok (.value (.bool true)) W := by
  unfold execOp; rw [ho]; simp only [hx, hy]; clear ho hx hy; simp only [dc]; go_simp
theorem run_bn' {o : Oper} {a : Act} {W : World} {p : Nat} {m : Int} {s : Nat} (ho : o.op = .build 32 #[(0, .const (.int .i64 1)), (1, .tmp p)]) (hp : a.tmps.getD p undef = .agg (dc m (s : Nat)).toArray) : (execOp a.eval o).run Tryz.prog W = .ok (.value (.agg (vc (.num m s)).toArray)) W := run_bn ho hp
end Go.Proofs.YtngkolcpbgibcaaGreatDoor
