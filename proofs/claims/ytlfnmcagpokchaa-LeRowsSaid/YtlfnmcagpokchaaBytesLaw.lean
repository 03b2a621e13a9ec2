/- LeBytes by its contract: it returns true. Condition: the bytes read as such. -/
import Derived.Test.YtlfnmcagpokchaaKnown3
import Derived.Test.YtlfnmcagpokchaaBy
namespace Go.Proofs.Ytlfnmcagpokchaa
open Go.RowKit

theorem tk_fit {at_ k : Int} {n : Nat} (h0 : 0 ≤ at_) (h1 : 0 ≤ k) (h2 : at_ + k ≤ (n : Int)) : tkE at_ k n = 0 ∧ tkAt at_ k n = at_ + k := by
  have e : tkE at_ k n = 0 := by
    unfold tkE
    have hs : stB at_ n = true := by simp [stB]; omega
    rw [if_neg (not_bad hs h1), if_neg (by omega)]
  exact ⟨e, by unfold tkAt; rw [if_pos e]⟩
theorem tkL_fit {at_ k : Int} {l : List UInt8} (h0 : 0 ≤ at_) (h1 : 0 ≤ k) (h2 : at_ + k ≤ (l.length : Int)) : tkL l at_ k = (l.drop at_.toNat).take k.toNat := by
  unfold tkL
  rw [if_pos (tk_fit h0 h1 h2).1]

/-- Bytes of the call's own, whatever they are. -/
def SomeBytes (zs : List Value) : Prop := ∀ u ∈ zs, ∃ z : Int, u = .int .u8 z ∧ 0 ≤ z ∧ z ≤ 255
theorem someBytes_map (l : List UInt8) : SomeBytes (l.map bv) := by
  intro u hu
  obtain ⟨c, _, rfl⟩ := List.mem_map.1 hu
  exact ⟨c.toNat, rfl, by omega, by have := c.toNat_lt; omega⟩
theorem someBytes_set {zs : List Value} {j : Nat} {z : Int} (h : SomeBytes zs) (h0 : 0 ≤ z) (h1 : z ≤ 255) : SomeBytes (zs.set j (.int .u8 z)) := by
  intro u hu
  rcases List.mem_or_eq_of_mem_set hu with hu | rfl
  · exact h u hu
  · exact ⟨z, rfl, h0, h1⟩
theorem addr_zero (g k : Nat) : (⟨g, 0, none⟩ : Addr).add k = ⟨g, k, none⟩ := by unfold Addr.add; split <;> simp_all
theorem own_g {w : World} {base n : Nat} {T : TypeId} {v : Value} {xs : List Value} (h : w.ownsRow base T 1 v n xs) : ∃ A c, v = .slice A n c ∧ n ≤ c ∧ (0 < n → ∃ g, A = some ⟨g, 0, none⟩ ∧ base ≤ g) := by
  rcases h.2 with ⟨rfl, rfl⟩ | ⟨g, cap, cur, rfl, hb, _, hnc, _⟩
  · exact ⟨none, 0, rfl, Nat.le_refl _, fun h0 => absurd h0 (by omega)⟩
  · exact ⟨_, cap, rfl, hnc, fun _ => ⟨g, rfl, hb⟩⟩

section
variable {w : World} {B n c : Nat} {A : Option Addr} {x y : UInt8} {r : List UInt8}
theorem by_u8a (h : Rd w B 1 A n ((x :: y :: r).map bv)) (hnc : n ≤ c) (hn : n ≤ 100) (hB : B ≤ w.heap.size) :
    Calls Try.prog 8 #[.agg #[.slice A n c, .int .i64 0]] w fun e w' => e = .returned (.tuple #[.int .i64 (x.toNat : Int), .agg #[.slice A n c, .int .i64 1], .int .i64 0]) ∧ Below w.heap.size w w' := by
  have hl := h.blen
  simp only [List.length_cons] at hl
  have H := u8_any (at_ := 0) h hnc (by omega) hB
  obtain ⟨e1, e2⟩ := tk_fit (at_ := 0) (k := 1) (n := n) (by omega) (by omega) (by omega)
  rw [e1, e2, tkL_fit (by omega) (by omega) (by simp; omega)] at H
  simpa [numN] using H
theorem by_u8b (h : Rd w B 1 A n ((x :: y :: r).map bv)) (hnc : n ≤ c) (hn : n ≤ 100) (hB : B ≤ w.heap.size) :
    Calls Try.prog 8 #[.agg #[.slice A n c, .int .i64 1]] w fun e w' => e = .returned (.tuple #[.int .i64 (y.toNat : Int), .agg #[.slice A n c, .int .i64 2], .int .i64 0]) ∧ Below w.heap.size w w' := by
  have hl := h.blen
  simp only [List.length_cons] at hl
  have H := u8_any (at_ := 1) h hnc (by omega) hB
  obtain ⟨e1, e2⟩ := tk_fit (at_ := 1) (k := 1) (n := n) (by omega) (by omega) (by omega)
  rw [e1, e2, tkL_fit (by omega) (by omega) (by simp; omega)] at H
  simpa [numN] using H
theorem by_u16 (h : Rd w B 1 A n ((x :: y :: r).map bv)) (hnc : n ≤ c) (hn : n ≤ 100) (hB : B ≤ w.heap.size) :
    Calls Try.prog 10 #[.agg #[.slice A n c, .int .i64 0]] w fun e w' => e = .returned (.tuple #[.int .i64 ((x.toNat : Int) + 256 * (y.toNat : Int)), .agg #[.slice A n c, .int .i64 2], .int .i64 0]) ∧ Below w.heap.size w w' := by
  have hl := h.blen
  simp only [List.length_cons] at hl
  have H := u16_any (at_ := 0) h hnc (by omega) hB
  obtain ⟨e1, e2⟩ := tk_fit (at_ := 0) (k := 2) (n := n) (by omega) (by omega) (by omega)
  rw [e1, e2, tkL_fit (by omega) (by omega) (by simp; omega)] at H
  simpa [numN] using H
theorem by_bytes {q : Nat} {l : List UInt8} (h : Rd w B 1 A n (l.map bv)) (hnc : n ≤ c) (hn : n ≤ 100) (hB : B ≤ w.heap.size) (hq : q ≤ n) :
    Calls Try.prog 13 #[.agg #[.slice A n c, .int .i64 0], .int .i64 q] w fun e w' => ∃ v', e = .returned (.tuple #[v', .agg #[.slice A n c, .int .i64 q], .int .i64 0]) ∧ w'.ownsRow w.heap.size 5 1 v' q ((l.take q).map bv) ∧ Below w.heap.size w w' := by
  have hl := h.blen
  have H := bytes_any (at_ := 0) (k := q) h hnc (by omega) hB
  obtain ⟨e1, e2⟩ := tk_fit (at_ := 0) (k := q) (n := n) (by omega) (by omega) (by omega)
  rw [e1, e2, tkL_fit (by omega) (by omega) (by rw [hl]; omega)] at H
  have e3 : (l.take q).length = q := by rw [List.length_take, hl]; omega
  simp only [Int.toNat_zero, List.drop_zero, Int.toNat_natCast, Int.zero_add, e3] at H
  exact H
end

set_option maxHeartbeats 4000000 in
set_option maxRecDepth 100000 in
theorem leBytes_any {w : World} {B n c : Nat} {k : Int} {A : Option Addr} {l : List UInt8} (h : Rd w B 1 A n (l.map bv)) (hB : B ≤ w.heap.size) (hk0 : 0 ≤ k) (hk1 : k ≤ 255) :
    Calls Try.prog 6 #[.slice A n c, .int .u8 k] w fun e w' => e = .returned (.bool true) ∧ Below w.heap.size w w' := by
  have hl := h.blen
  by_cases h2 : n < 2
  · have h2' : (n : Int) < 2 := by omega
    go_enter Try.func6, Try.ntmps6
    go_wp2_with fail
    refine (known3_any w).mono ?_
    rintro e w0 ⟨rfl, hb0⟩
    go_wp2
    go_ret
    exact ⟨rfl, hb0⟩
  by_cases h3 : 100 < n
  · have h2' : ¬ (n : Int) < 2 := by omega
    have h3' : (100 : Int) < (n : Int) := by omega
    go_enter Try.func6, Try.ntmps6
    go_wp2_with fail
    refine (known3_any w).mono ?_
    rintro e w0 ⟨rfl, hb0⟩
    go_wp2
    go_ret
    exact ⟨rfl, hb0⟩
  have h2' : ¬ (n : Int) < 2 := by omega
  have h3' : ¬ (100 : Int) < (n : Int) := by omega
  obtain ⟨x, y, r, rfl⟩ : ∃ x y r, l = x :: y :: r := by
    match l, hl with
    | x :: y :: r, _ => exact ⟨x, y, r, rfl⟩
    | [_], hl => simp at hl; omega
    | [], hl => simp at hl; omega
  obtain ⟨a, rfl, hab, hcell⟩ := h.at_ (by omega)
  have p0 : w.cell? a = some (.int .u8 (x.toNat : Int)) := by have := hcell 0 (bv x) rfl; simpa [Addr.add, bv] using this
  have p1 : w.cell? ⟨a.block, a.off + 1, none⟩ = some (.int .u8 (y.toNat : Int)) := hcell 1 (bv y) rfl
  obtain ⟨K, rfl⟩ := Int.eq_ofNat_of_zero_le hk0
  have hq : ∃ q : Nat, (K : Int) % ((n : Int) + 1) = (q : Int) ∧ q ≤ n := by
    refine ⟨K % (n + 1), by simp, ?_⟩
    have := Nat.mod_lt K (show 0 < n + 1 by omega)
    omega
  obtain ⟨q, hq, hqn⟩ := hq
  have HL := Lib.hid hl
  have HQ := Lib.hid hq
  have HP0 := Lib.hid p0
  have HP1 := Lib.hid p1
  have bx := x.toNat_lt
  have by_ := y.toNat_lt
  clear hl hq p0 p1 hcell
  go_enter Try.func6, Try.ntmps6
  go_wp2_with fail
  refine (known3_any w).mono ?_
  rintro e w0 ⟨rfl, hb0⟩
  have r0 := h.belowMono hb0 hB
  have z0 : B ≤ w0.heap.size := Nat.le_trans hB hb0.size
  go_wp2_with (at_builtin; refine wpList_app bytesRow rfl (.tmp 30) (.tmp 31) rfl rfl rfl (World.ownsRow_made (base := w0.heap.size) (size := 1) w0 #[] 0 (Nat.le_refl _) (by simp [maxLen]) (by simp)) (r0.belowMono ((Below.refl w0.heap.size w0).alloc (Nat.le_refl _) _) z0) (bv_one _) ?_ ?_ ?_ ?_)
  · unfold maxLen; omega
  · omega
  · simp
  intro v1 w1 o1 _ hb1
  try simp only [Nat.zero_add, List.nil_append] at o1
  have b1 := hb0.trans ((((Below.refl w0.heap.size w0).alloc (Nat.le_refl _) _).trans hb1).mono hb0.size)
  obtain ⟨A5, c5, rfl, hc5, -, r5⟩ := own_open (l := x :: y :: r) o1
  have x5 : Rd w1 B 1 (some a) n ((x :: y :: r).map bv) := (r0.belowMono ((Below.refl w0.heap.size w0).alloc (Nat.le_refl _) _) z0).belowMono hb1 z0
  have zx : B ≤ w1.heap.size := Nat.le_trans hB b1.size
  clear r0 hb1 o1 hb0 z0
  have R5 := Lib.hid (r5.alloc (Nat.le_refl _) (.cells #[.slice A5 n c5, .int .i64 0] 25))
  have z5 : w1.heap.size ≤ (w1.alloc (.cells #[.slice A5 n c5, .int .i64 0] 25)).heap.size := by simp
  have X5 := Lib.hid (x5.alloc zx (.cells #[.slice A5 n c5, .int .i64 0] 25))
  have K5 := Lib.hid (Bk.new w1 25 #[.slice A5 n c5, .int .i64 0])
  have b1' := b1.alloc b1.size (.cells #[.slice A5 n c5, .int .i64 0] 25)
  have zx' : B ≤ (w1.alloc (.cells #[.slice A5 n c5, .int .i64 0] 25)).heap.size := by simp; omega
  clear r5 x5 b1 zx
  have c0 := K5.out.cell 0
  have c1 := K5.out.cell 1
  go_wp2_with fail
  refine (by_u8a R5.out hc5 (by omega) z5).mono ?_
  rintro e w2 ⟨rfl, hb2⟩
  clear c0 c1
  have Rq := Lib.hid (R5.out.cl z5 hb2 (.cells #[.slice A5 n c5, .int .i64 1] 25))
  have Xq := Lib.hid (X5.out.cl zx' hb2 (.cells #[.slice A5 n c5, .int .i64 1] 25))
  have zq : w1.heap.size ≤ (w2.alloc (.cells #[.slice A5 n c5, .int .i64 1] 25)).heap.size := Nat.le_trans z5 (Nat.le_trans hb2.size (by simp))
  have zxq : B ≤ (w2.alloc (.cells #[.slice A5 n c5, .int .i64 1] 25)).heap.size := Nat.le_trans zx' (Nat.le_trans hb2.size (by simp))
  have bq := bel_cl b1' hb2 (.cells #[.slice A5 n c5, .int .i64 1] 25)
  clear R5 X5 z5 zx' b1'
  have R2 := Rq
  have X2 := Xq
  have z2 := zq
  have zx2 := zxq
  have b2 := bq
  clear Rq Xq zq zxq bq
  have K5' := Lib.hid (K5.out.cl hb2 (.cells #[.slice A5 n c5, .int .i64 1] 25))
  clear K5
  have K5 := K5'
  clear K5'
  have K2 := Lib.hid (Bk.new w2 25 #[.slice A5 n c5, .int .i64 1])
  clear hb2
  have c0 := K2.out.cell 0
  have c1 := K2.out.cell 1
  go_wp2_with fail
  refine (by_u8b R2.out hc5 (by omega) z2).mono ?_
  rintro e w3 ⟨rfl, hb3⟩
  clear c0 c1
  have Rq := Lib.hid (R2.out.cl z2 hb3 (.cells #[.slice A5 n c5, .int .i64 2] 25))
  have Xq := Lib.hid (X2.out.cl zx2 hb3 (.cells #[.slice A5 n c5, .int .i64 2] 25))
  have zq : w1.heap.size ≤ (w3.alloc (.cells #[.slice A5 n c5, .int .i64 2] 25)).heap.size := Nat.le_trans z2 (Nat.le_trans hb3.size (by simp))
  have zxq : B ≤ (w3.alloc (.cells #[.slice A5 n c5, .int .i64 2] 25)).heap.size := Nat.le_trans zx2 (Nat.le_trans hb3.size (by simp))
  have bq := bel_cl b2 hb3 (.cells #[.slice A5 n c5, .int .i64 2] 25)
  clear R2 X2 z2 zx2 b2
  have R3 := Rq
  have X3 := Xq
  have z3 := zq
  have zx3 := zxq
  have b3 := bq
  clear Rq Xq zq zxq bq
  have K5' := Lib.hid (K5.out.cl hb3 (.cells #[.slice A5 n c5, .int .i64 2] 25))
  clear K5
  have K5 := K5'
  clear K5'
  have K2' := Lib.hid (K2.out.cl hb3 (.cells #[.slice A5 n c5, .int .i64 2] 25))
  clear K2
  have K2 := K2'
  clear K2'
  have K3 := Lib.hid (Bk.new w3 25 #[.slice A5 n c5, .int .i64 2])
  clear hb3
  have c0 := K5.out.cell 0
  have c1 := K5.out.cell 1
  go_wp2_with fail
  refine (by_u16 R3.out hc5 (by omega) z3).mono ?_
  rintro e w4 ⟨rfl, hb4⟩
  clear c0 c1
  have Rq := Lib.hid (R3.out.cl z3 hb4 (.cells #[.slice A5 n c5, .int .i64 2] 25))
  have Xq := Lib.hid (X3.out.cl zx3 hb4 (.cells #[.slice A5 n c5, .int .i64 2] 25))
  have zq : w1.heap.size ≤ (w4.alloc (.cells #[.slice A5 n c5, .int .i64 2] 25)).heap.size := Nat.le_trans z3 (Nat.le_trans hb4.size (by simp))
  have zxq : B ≤ (w4.alloc (.cells #[.slice A5 n c5, .int .i64 2] 25)).heap.size := Nat.le_trans zx3 (Nat.le_trans hb4.size (by simp))
  have bq := bel_cl b3 hb4 (.cells #[.slice A5 n c5, .int .i64 2] 25)
  clear R3 X3 z3 zx3 b3
  have R4 := Rq
  have X4 := Xq
  have z4 := zq
  have zx4 := zxq
  have b4 := bq
  clear Rq Xq zq zxq bq
  have K5' := Lib.hid (K5.out.cl hb4 (.cells #[.slice A5 n c5, .int .i64 2] 25))
  clear K5
  have K5 := K5'
  clear K5'
  have K2' := Lib.hid (K2.out.cl hb4 (.cells #[.slice A5 n c5, .int .i64 2] 25))
  clear K2
  have K2 := K2'
  clear K2'
  have K3' := Lib.hid (K3.out.cl hb4 (.cells #[.slice A5 n c5, .int .i64 2] 25))
  clear K3
  have K3 := K3'
  clear K3'
  have K4 := Lib.hid (Bk.new w4 25 #[.slice A5 n c5, .int .i64 2])
  clear hb4
  have c0 := K5.out.cell 0
  have c1 := K5.out.cell 1
  have hqo := HQ.out
  have hn0 : 0 ≤ (n : Int) + 1 := by omega
  have hn1 : ((n : Int) + 1) ≠ 0 := by omega
  go_wp2_with fail
  refine (by_bytes R4.out hc5 (by omega) z4 hqn).mono ?_
  rintro e w6 ⟨v6, rfl, o6, hb6⟩
  clear c0 c1
  obtain ⟨A6, c6, rfl, hc6, hA6⟩ := own_g o6
  have R6 := Lib.hid (R4.out.cl z4 hb6 (.cells #[.slice A5 n c5, .int .i64 q] 25))
  have X6 := Lib.hid (X4.out.cl zx4 hb6 (.cells #[.slice A5 n c5, .int .i64 q] 25))
  have z6 : w1.heap.size ≤ (w6.alloc (.cells #[.slice A5 n c5, .int .i64 q] 25)).heap.size := Nat.le_trans z4 (Nat.le_trans hb6.size (by simp))
  have b6 := bel_cl b4 hb6 (.cells #[.slice A5 n c5, .int .i64 q] 25)
  have K5' := Lib.hid (K5.out.cl hb6 (.cells #[.slice A5 n c5, .int .i64 q] 25))
  have K6 := Lib.hid (Bk.new w6 25 #[.slice A5 n c5, .int .i64 q])
  have o6' := o6.alloc (.cells #[.slice A5 n c5, .int .i64 q] 25)
  have hbs : (w4.alloc (.cells #[.slice A5 n c5, .int .i64 2] 25)).heap.size ≤ (w6.alloc (.cells #[.slice A5 n c5, .int .i64 q] 25)).heap.size := Nat.le_trans hb6.size (by simp)
  have zb : w1.heap.size + 1 ≤ (w4.alloc (.cells #[.slice A5 n c5, .int .i64 2] 25)).heap.size := K5.out.lt
  have zw : w.heap.size ≤ (w4.alloc (.cells #[.slice A5 n c5, .int .i64 2] 25)).heap.size := b4.size
  have zx6 : B ≤ (w4.alloc (.cells #[.slice A5 n c5, .int .i64 2] 25)).heap.size := zx4
  have g0 : (w6.alloc (.cells #[.slice A5 n c5, .int .i64 q] 25)).cell? a = some (.int .u8 (x.toNat : Int)) := by
    obtain ⟨a', ha, _, hc⟩ := X6.out.at_ (by omega)
    injection ha with ha
    subst ha
    have := hc 0 (bv x) rfl
    simpa [Addr.add, bv] using this
  have g1 : (w6.alloc (.cells #[.slice A5 n c5, .int .i64 q] 25)).cell? ⟨a.block, a.off + 1, none⟩ = some (.int .u8 (y.toNat : Int)) := by
    obtain ⟨a', ha, _, hc⟩ := X6.out.at_ (by omega)
    injection ha with ha
    subst ha
    exact hc 1 (bv y) rfl
  clear K2 K3 K4 K5 R4 X4 z4 zx4 b4 o6 hb6
  have K5 := K5'
  clear K5'
  have t1 := K6.out.cell 1
  have n0 : 0 < n := by omega
  have n1 : 1 < n := by omega
  have n1' : (1 : Int) < (n : Int) := by omega
  have q0 : ((x.toNat : Int) != (x.toNat : Int)) = false := by simp
  have q1 : ((y.toNat : Int) != (y.toNat : Int)) = false := by simp
  have q2 : ((x.toNat : Int) + 256 * (y.toNat : Int) != (x.toNat : Int) + 256 * (y.toNat : Int)) = false := by simp
  have q3 : ((q : Int) != (q : Int)) = false := by simp
  go_wp2_with fail
  generalize hBASE : (w4.alloc (.cells #[.slice A5 n c5, .int .i64 2] 25)).heap.size = BASE at *
  generalize hW6 : (w6.alloc (.cells #[.slice A5 n c5, .int .i64 q] 25)) = W6 at *
  clear hBASE hW6 hqo hn0 hn1 g0 g1 q0 q1 q2 q3 t1
  have sb := someBytes_map (List.take q (x :: y :: r))
  generalize (List.take q (x :: y :: r)).map bv = zs0 at *
  have SB := Lib.hid sb
  clear sb
  go_loopw [19] (fun i wr => ∃ (j : Nat) (zs : List Value), j ≤ q ∧ i = .int .i64 j ∧ wr.ownsRow BASE 5 1 (.slice A6 q c6) q zs ∧ Hid (SomeBytes zs) ∧ Below BASE W6 wr) (fun i _ => q - (intOf i).toNat)
  case atStart => exact ⟨0, zs0, Nat.zero_le _, rfl, o6', SB, Below.refl _ _⟩
  case round =>
    obtain ⟨j, zs, hj, rfl, ho, HS, hbel⟩ := hrel
    by_cases hjq : j < q
    · obtain ⟨g, rfl, hg⟩ := hA6 (by omega)
      have hjl : j < zs.length := by have := ho.1; omega
      obtain ⟨z, hz, z0, z1⟩ := HS.out zs[j] (List.getElem_mem hjl)
      have hc := ho.cells (g := g) rfl j zs[j] (List.getElem?_eq_getElem hjl)
      rw [hz, addr_zero] at hc
      have hf := ho.frozenAt j
      have hjq' : (j : Int) < (q : Int) := by omega
      obtain ⟨s1, s2⟩ := ho.stored j (.int .u8 (IntKind.u8.wrap (z + 1)))
      have hwb : 0 ≤ IntKind.u8.wrap (z + 1) ∧ IntKind.u8.wrap (z + 1) ≤ 255 := by rw [IntKind.wrap_u8]; omega
      have HS2 := Lib.hid (someBytes_set (j := j) HS.out hwb.1 hwb.2)
      have hb2 : Below BASE W6 (wr.setCell ⟨g, j, none⟩ (.int .u8 (IntKind.u8.wrap (z + 1)))) := hbel.setCell (by simpa using hg) _
      clear hwb hz
      go_wp2
      go_roundw
      case rel => exact ⟨j + 1, _, by omega, by go_num, s1, HS2, hb2⟩
      case measure => simp [intOf]; omega
    · obtain rfl : j = q := by omega
      have hjq' : ¬ (j : Int) < (j : Int) := by omega
      have kf := K5.out.below hbel (by omega)
      have f0 := kf.cell 0
      have sc := run_str (c := c5) (R6.out.belowMono hbel (by omega))
      have sd := run_str (c := c) (X6.out.belowMono hbel zx6)
      have bz := b6.trans (hbel.mono zw)
      go_wp2
      go_ret
      exact ⟨rfl, bz⟩
end Go.Proofs.Ytlfnmcagpokchaa
