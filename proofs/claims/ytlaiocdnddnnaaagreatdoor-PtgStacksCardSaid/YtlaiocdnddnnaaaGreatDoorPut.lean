/- le.take by its contract. Condition: the bytes read as such. -/
/- le.number by its contract. Condition: eight bytes at most, that read as such. -/
/- bytes.Clone, str.put16, str.putNarrow, str.putWide by their contracts. Condition: the bytes read as such, are the call's own, and are not too many. -/
import Derived.Test.YtlaiocdnddnnaaaGreatDoorArg
import Derived.IntWalk
import Derived.Test.YtlaiocdnddnnaaaGreatDoorValid
import Derived.Lib.OthersKept
set_option linter.unusedVariables false
set_option linter.unusedSimpArgs false
namespace Go.Proofs.YtlaiocdnddnnaaaGreatDoor
open Go.RowKit
def tkE (at_ k : Int) (n : Nat) : Int := if stB at_ n = false ∨ k < 0 then 1 else if (n : Int) - at_ < k then 5 else 0
def tkAt (at_ k : Int) (n : Nat) : Int := if tkE at_ k n = 0 then at_ + k else at_
def tkL (l : List UInt8) (at_ k : Int) : List UInt8 := if tkE at_ k l.length = 0 then (l.drop at_.toNat).take k.toNat else []
theorem tkE_ok {at_ k : Int} {n : Nat} (h : tkE at_ k n = 0) : 0 ≤ at_ ∧ 0 ≤ k ∧ at_ + k ≤ (n : Int) := by
  unfold tkE at h
  by_cases h1 : stB at_ n = false ∨ k < 0
  · rw [if_pos h1] at h; cases h
  · rw [if_neg h1] at h
    by_cases h2 : (n : Int) - at_ < k
    · rw [if_pos h2] at h; cases h
    · have h3 : stB at_ n = true := by
        cases hs : stB at_ n
        · exact absurd (.inl hs) h1
        · rfl
      have h4 : 0 ≤ at_ ∧ at_ ≤ (n : Int) := by simpa [stB] using h3
      have h5 : ¬ k < 0 := fun h => h1 (.inr h); omega
theorem tkL_len (l : List UInt8) (at_ k : Int) : (tkL l at_ k).length ≤ k.toNat := by
  unfold tkL
  split
  · rw [List.length_take]; exact Nat.min_le_left _ _
  · exact Nat.zero_le _
theorem two_boxes {w w1 : World} {T T' : TypeId} {cs ds : Array Value} (hb : Below ((w.alloc (.cells cs T)).alloc (.cells ds T')).heap.size ((w.alloc (.cells cs T)).alloc (.cells ds T')) w1) :
    Bk w1 w.heap.size T cs ∧ Bk w1 (w.heap.size + 1) T' ds ∧ Below w.heap.size w w1 ∧ w.heap.size + 2 ≤ w1.heap.size := by
  refine ⟨((Bk.new w T cs).alloc _).below hb (by simp; omega), ?_, (((Below.refl w.heap.size w).alloc (Nat.le_refl _) _).alloc (by simp) _).trans (hb.mono (by simp; omega)), by have := hb.size; simpa using this⟩; have := (Bk.new (w.alloc (.cells cs T)) T' ds).below hb (by simp)
  rwa [show (w.alloc (.cells cs T)).heap.size = w.heap.size + 1 by simp] at this
theorem tk_err {l : List UInt8} {at_ k e : Int} {n : Nat} (hl : l.length = n) (he : tkE at_ k n = e) (h0 : e ≠ 0) : tkL l at_ k = [] ∧ tkAt at_ k n = at_ := by
  subst hl; unfold tkL tkAt; rw [if_neg (by rw [he]; exact h0), if_neg (by rw [he]; exact h0)]; exact ⟨rfl, rfl⟩
theorem not_bad {b : Bool} {k : Int} (h : b = true) (hk : 0 ≤ k) : ¬ (b = false ∨ k < 0) := by
  subst h; intro h
  rcases h with h | h
  · cases h
  · omega
theorem take_none {w W : World} {B n c : Nat} {at_ k e : Int} {A : Option Addr} {l : List UInt8} (hl : l.length = n) (he : tkE at_ k n = e) (h0 : e ≠ 0) (hb : Below w.heap.size w W) :
    ∃ A' c', Ending.returned (.tuple #[.slice none 0 0, .agg #[.slice A n c, .int .i64 at_], .int .i64 e]) = .returned (.tuple #[.slice A' (tkL l at_ k).length c', .agg #[.slice A n c, .int .i64 (tkAt at_ k n)], .int .i64 (tkE at_ k n)]) ∧
      (tkL l at_ k).length ≤ c' ∧ Rd w B 1 A' (tkL l at_ k).length ((tkL l at_ k).map bv) ∧ Below w.heap.size w W := by
  obtain ⟨h1, h2⟩ := tk_err hl he h0; rw [h1, h2, he]; exact ⟨none, 0, rfl, Nat.le_refl _, Rd.nil _ _ _ _, hb⟩
theorem take_some {w W : World} {B n c p q : Nat} {A A' : Option Addr} {l : List UInt8} (hl : l.length = n) (he : tkE p q n = 0) (hnc : n ≤ c) (hA : A' = if c = p then A else A.map (·.add (p * 1))) (h : Rd w B 1 A n (l.map bv)) (hb : Below w.heap.size w W) :
    ∃ A'' c', Ending.returned (.tuple #[.slice A' q (c - p), .agg #[.slice A n c, .int .i64 ((p : Int) + (q : Int))], .int .i64 0]) = .returned (.tuple #[.slice A'' (tkL l p q).length c', .agg #[.slice A n c, .int .i64 (tkAt p q n)], .int .i64 (tkE p q n)]) ∧
      (tkL l p q).length ≤ c' ∧ Rd w B 1 A'' (tkL l p q).length ((tkL l p q).map bv) ∧ Below w.heap.size w W := by
  obtain ⟨h0, h1, h2⟩ := tkE_ok he; have hL : tkL l p q = (l.drop p).take q := by unfold tkL; rw [if_pos (by rw [hl]; exact he)]; simp
  have hlen : (tkL l p q).length = q := by rw [hL, List.length_take, List.length_drop]; omega
  have hc := h.cut (i := p) (j := p + q) (cap := c) (by omega) (by omega) hnc; rw [hlen, hL, he, show tkAt p q n = (p : Int) + q by unfold tkAt; rw [if_pos he]]; refine ⟨A', c - p, rfl, by omega, ?_, hb⟩; rw [hA]; have e : p + q - p = q := by omega
  rw [e] at hc
  simpa [List.map_drop, List.map_take] using hc
theorem take_full {w W : World} {B n c : Nat} {A : Option Addr} {l : List UInt8} (he : tkE c (0 : Nat) n = 0) (hb : Below w.heap.size w W) :
    ∃ A'' c', Ending.returned (.tuple #[.slice A 0 0, .agg #[.slice A n c, .int .i64 c], .int .i64 0]) = .returned (.tuple #[.slice A'' (tkL l c (0 : Nat)).length c', .agg #[.slice A n c, .int .i64 (tkAt c (0 : Nat) n)], .int .i64 (tkE c (0 : Nat) n)]) ∧
      (tkL l c (0 : Nat)).length ≤ c' ∧ Rd w B 1 A'' (tkL l c (0 : Nat)).length ((tkL l c (0 : Nat)).map bv) ∧ Below w.heap.size w W := by
  have hL : tkL l c (0 : Nat) = [] := by unfold tkL; split <;> simp
  rw [hL, he, show tkAt c (0 : Nat) n = (c : Int) by unfold tkAt; rw [if_pos he]; simp]; exact ⟨A, 0, rfl, Nat.le_refl _, Rd.nil _ _ _ _, hb⟩
set_option maxHeartbeats 1000000 in
theorem take_any {w : World} {B n c : Nat} {at_ k : Int} {A : Option Addr} {l : List UInt8} (h : Rd w B 1 A n (l.map bv)) (hnc : n ≤ c) (hn : n ≤ 1000000000000000000) :
    Calls Tryz.prog 116 #[.agg #[.slice A n c, .int .i64 at_], .int .i64 k] w fun e w' => ∃ A' c', e = .returned (.tuple #[.slice A' (tkL l at_ k).length c', .agg #[.slice A n c, .int .i64 (tkAt at_ k n)], .int .i64 (tkE at_ k n)]) ∧
      (tkL l at_ k).length ≤ c' ∧ Rd w B 1 A' (tkL l at_ k).length ((tkL l at_ k).map bv) ∧ Below w.heap.size w w' := by
  have hl := h.len; rw [List.length_map, Nat.mul_one] at hl; have HL := Lib.hid hl; clear hl
  cases hst : stB at_ n
  · have HF := Lib.hid (show tkE at_ k n = 1 by simp [tkE, hst]); have HT := Lib.hid hst; clear hst; go_enter Tryz.func116, Tryz.ntmps116
    go_wp2_with fail
    go_step3
    go_wp2_with fail
    refine stands_any.mono ?_; rintro e w1 ⟨rfl, hb1⟩; rw [HT.out]; obtain ⟨k1, k2, hb', s1⟩ := two_boxes hb1; have c0 := k1.cell 0; have c1 := k1.cell 1; have d0 := k2.cell 0; have d1 := k2.cell 1; have z0 := k2.frozen 0; have z1 := k2.frozen 1; go_wp2
    go_region
    all_goals
      go_wp2; rw [Exit.noGoto_ret]; refine bodyPost_ret (v := .tuple #[.slice none 0 0, .agg #[.slice A n c, .int .i64 at_], .int .i64 1]) (by simp [results, Tryz.results116, go_sem, d0, d1]) rfl ?_; exact take_none HL.out HF.out (by decide) ((hb'.setCell (by simp) _).setCell (by simp) _).drew
  · have h01 : 0 ≤ at_ ∧ at_ ≤ (n : Int) := by simpa [stB] using hst
    obtain ⟨h0, h1⟩ := h01; obtain ⟨p, rfl⟩ := Int.eq_ofNat_of_zero_le h0; have HT := Lib.hid hst
    by_cases hk : k < 0
    · have HF := Lib.hid (show tkE p k n = 1 by simp [tkE, hk]); clear hst; go_enter Tryz.func116, Tryz.ntmps116
      go_wp2_with fail
      go_step3
      go_wp2_with fail
      refine stands_any.mono ?_; rintro e w1 ⟨rfl, hb1⟩; rw [HT.out]; obtain ⟨k1, k2, hb', s1⟩ := two_boxes hb1; have c0 := k1.cell 0; have c1 := k1.cell 1; have d0 := k2.cell 0; have d1 := k2.cell 1; have z0 := k2.frozen 0; have z1 := k2.frozen 1; go_wp2
      go_region
      all_goals
        go_wp2; rw [Exit.noGoto_ret]; refine bodyPost_ret (v := .tuple #[.slice none 0 0, .agg #[.slice A n c, .int .i64 p], .int .i64 1]) (by simp [results, Tryz.results116, go_sem, d0, d1]) rfl ?_; exact take_none HL.out HF.out (by decide) ((hb'.setCell (by simp) _).setCell (by simp) _).drew
    · obtain ⟨q, rfl⟩ := Int.eq_ofNat_of_zero_le (show 0 ≤ k by omega)
      by_cases hsh : (n : Int) - p < q
      · have HF := Lib.hid (show tkE p q n = 5 by unfold tkE; rw [if_neg (not_bad hst (by omega)), if_pos hsh]); clear hst; go_enter Tryz.func116, Tryz.ntmps116
        go_wp2_with fail
        refine wp_scope_fwd 0 rfl ?_
        go_wp2_with fail
        refine stands_any.mono ?_; rintro e w1 ⟨rfl, hb1⟩; rw [HT.out]; obtain ⟨k1, k2, hb', s1⟩ := two_boxes hb1; have c0 := k1.cell 0; have c1 := k1.cell 1
        go_wp2_with fail
        refine (left_any h0 h1 hn).mono ?_; rintro e w2 ⟨rfl, hb2⟩; have hb2' := hb'.trans (hb2.mono (by omega)); have k1' := k1.below hb2 (by omega); have k2' := k2.below hb2 (by omega); clear c0 c1; have c0 := k1'.cell 0; have c1 := k1'.cell 1; have d0 := k2'.cell 0; have d1 := k2'.cell 1; have z0 := k2'.frozen 0; have z1 := k2'.frozen 1; go_wp2
        go_step3
        refine ⟨rfl, ?_⟩
        show Code.wp _ _ _ _ _
        go_wp2
        go_region
        all_goals
          go_wp2; rw [Exit.noGoto_ret]; refine bodyPost_ret (v := .tuple #[.slice none 0 0, .agg #[.slice A n c, .int .i64 p], .int .i64 5]) (by simp [results, Tryz.results116, go_sem, d0, d1]) rfl ?_; exact take_none HL.out HF.out (by decide) ((hb2'.setCell (by simp) _).setCell (by simp) _).drew
      · have HF := Lib.hid (show tkE p q n = 0 by unfold tkE; rw [if_neg (not_bad hst (by omega)), if_neg hsh]); clear hst hk; have hpq : (p : Int) + (q : Int) ≤ (n : Int) := by omega
        have hpc : (p : Int) + (q : Int) ≤ (c : Int) := by omega
        have hp0 : (p : Int) ≤ (p : Int) + (q : Int) := by omega
        have hw : IntKind.i64.wrap ((p : Int) + (q : Int)) = (p : Int) + (q : Int) := IntWalk.i64_in _ (by omega); have hx : ((p : Int) + (q : Int)).toNat = p + q := by omega
        by_cases hcp : c = p
        · obtain rfl : q = 0 := by omega
          subst hcp; go_enter Tryz.func116, Tryz.ntmps116
          go_wp2_with fail
          go_step3
          go_wp2_with fail
          refine stands_any.mono ?_; rintro e w1 ⟨rfl, hb1⟩; rw [HT.out]; obtain ⟨k1, k2, hb', s1⟩ := two_boxes hb1; have c0 := k1.cell 0; have c1 := k1.cell 1
          go_wp2_with fail
          refine (left_any h0 h1 hn).mono ?_; rintro e w2 ⟨rfl, hb2⟩; have hb2' := hb'.trans (hb2.mono (by omega)); have k1' := k1.below hb2 (by omega); have k2' := k2.below hb2 (by omega); clear c0 c1; have c0 := k1'.cell 0; have c1 := k1'.cell 1; have d0 := k2'.cell 0; have d1 := k2'.cell 1; have z0 := k2'.frozen 0; have z1 := k2'.frozen 1; go_wp2
          go_region
          all_goals
            go_wp2; rw [Exit.noGoto_ret]; refine bodyPost_ret (v := .tuple #[.slice A 0 0, .agg #[.slice A n c, .int .i64 c], .int .i64 0]) (by simp [results, Tryz.results116, go_sem, d0, d1]) rfl ?_; exact take_full HF.out ((hb2'.setCell (by simp) _).setCell (by simp) _).drew
        · have hcp' : ¬ (p = c) := fun e => hcp e.symm; go_enter Tryz.func116, Tryz.ntmps116
          go_wp2_with fail
          go_step3
          go_wp2_with fail
          refine stands_any.mono ?_; rintro e w1 ⟨rfl, hb1⟩; rw [HT.out]; obtain ⟨k1, k2, hb', s1⟩ := two_boxes hb1; have c0 := k1.cell 0; have c1 := k1.cell 1
          go_wp2_with fail
          refine (left_any h0 h1 hn).mono ?_; rintro e w2 ⟨rfl, hb2⟩; have hb2' := hb'.trans (hb2.mono (by omega)); have k1' := k1.below hb2 (by omega); have k2' := k2.below hb2 (by omega); clear c0 c1; have c0 := k1'.cell 0; have c1 := k1'.cell 1; have d0 := k2'.cell 0; have d1 := k2'.cell 1; have z0 := k2'.frozen 0; have z1 := k2'.frozen 1; go_wp2
          go_region
          all_goals
            go_wp2; rw [Exit.noGoto_ret]; refine bodyPost_ret (v := .tuple #[.slice (A.map (·.add (p * 1))) q (c - p), .agg #[.slice A n c, .int .i64 ((p : Int) + (q : Int))], .int .i64 0]) (by simp [results, Tryz.results116, go_sem, d0, d1]) rfl ?_; exact take_some HL.out HF.out hnc (by rw [if_neg hcp]) h ((hb2'.setCell (by simp) _).setCell (by simp) _).drew
end Go.Proofs.YtlaiocdnddnnaaaGreatDoor
namespace Go.Proofs.YtlaiocdnddnnaaaGreatDoor
open Go.RowKit
def numN : List UInt8 → Nat
  | [] => 0
  | x :: r => x.toNat + 256 * numN r
theorem numN_append (a b : List UInt8) : numN (a ++ b) = numN a + 256 ^ a.length * numN b := by
  induction a with
  | nil => simp [numN]
  | cons x a ih =>
    simp only [List.cons_append, numN, ih, List.length_cons, Nat.pow_succ]; rw [Nat.mul_add, Nat.add_assoc]
    congr 2
    rw [← Nat.mul_assoc, Nat.mul_comm 256]
theorem numN_lt (a : List UInt8) : numN a < 256 ^ a.length := by
  induction a with
  | nil => simp [numN]
  | cons x a ih =>
    simp only [numN, List.length_cons, Nat.pow_succ]; have := x.toNat_lt; omega
theorem pow_bytes (k : Nat) : 256 ^ k = 2 ^ (8 * k) := by
  rw [Nat.pow_mul]
theorem pow_le8 {k : Nat} (h : k ≤ 8) : 256 ^ k ≤ 18446744073709551616 := Nat.pow_le_pow_right (by omega) h
theorem or_shift (a b i : Nat) (ha : a < 2 ^ i) : a ||| b * 2 ^ i = a + 2 ^ i * b := by
  have h := Nat.shiftLeft_add_eq_or_of_lt (i := i) (b := a) ha b; rw [Nat.shiftLeft_eq] at h; rw [Nat.or_comm, ← h, Nat.mul_comm, Nat.add_comm]
theorem or_u64 (a b : Nat) (ha : a < 18446744073709551616) (hb : b < 18446744073709551616) (h : a ||| b < 18446744073709551616) : bits .or .u64 (a : Int) (b : Int) = ((a ||| b : Nat) : Int) := by
  show IntKind.u64.wrap ((BitVec.ofInt 64 (a : Int) ||| BitVec.ofInt 64 (b : Int)).toNat : Int) = _
  rw [BitVec.toNat_or, BitVec.ofInt_natCast, BitVec.ofInt_natCast, BitVec.toNat_ofNat, BitVec.toNat_ofNat, Nat.mod_eq_of_lt (by omega), Nat.mod_eq_of_lt (by omega)]; exact IntWalk.u64_in _ (by omega)
theorem or_step (a b k : Nat) (ha : a < 256 ^ k) (hb : b < 256) (hk : k < 8) : bits .or .u64 (a : Int) (IntKind.u64.wrap ((b : Int) * 2 ^ (8 * k))) = ((a + 256 ^ k * b : Nat) : Int) := by
  have h1 : 256 ^ k * 256 ≤ 18446744073709551616 := by have := pow_le8 (k := k + 1) (by omega); rwa [Nat.pow_succ] at this
  have h2 : 256 ^ k * (b + 1) ≤ 256 ^ k * 256 := Nat.mul_le_mul_left _ (by omega); rw [Nat.mul_add, Nat.mul_one] at h2; have e : ((b : Int) * 2 ^ (8 * k)) = ((b * 2 ^ (8 * k) : Nat) : Int) := by simp
  have e2 : b * 2 ^ (8 * k) = 256 ^ k * b := by rw [← pow_bytes, Nat.mul_comm]
  have ho : a ||| b * 2 ^ (8 * k) = a + 256 ^ k * b := by rw [or_shift _ _ _ (by rw [← pow_bytes]; exact ha), pow_bytes]
  rw [e, IntWalk.u64_in _ (by omega), or_u64 _ _ (by omega) (by omega) (by omega), ho]
theorem ret_u64 {a b : Int} (h : a = b) : Value.int .u64 a = .int .u64 b := by rw [h]
theorem Rd.blen {w : World} {B n : Nat} {A : Option Addr} {l : List UInt8} (h : Rd w B 1 A n (l.map bv)) : l.length = n := by have := h.len; simp at this; exact this
theorem Rd.byteAt {w : World} {B n i : Nat} {A : Option Addr} {l : List UInt8} (h : Rd w B 1 A n (l.map bv)) (hi : i < n) :
    ∃ a x, A = some a ∧ a.block < B ∧ w.cell? (a.add i) = some (.int .u8 (x.toNat : Int)) ∧ l[i]? = some x ∧ l.take (i + 1) = l.take i ++ [x] := by
  obtain ⟨a, u, ha, hb, hu, hc⟩ := h.cell hi; have hl : i < l.length := by rw [h.blen]; exact hi
  refine ⟨a, l[i], ha, hb, ?_, List.getElem?_eq_getElem hl, (List.take_append_getElem hl).symm⟩; rw [hc, ← hu]; simp [List.getElem?_eq_getElem hl, bv]
theorem number_any {w : World} {B n c : Nat} {A : Option Addr} {l : List UInt8} (h : Rd w B 1 A n (l.map bv)) (hn : n ≤ 8) :
    Calls Tryz.prog 117 #[.slice A n c] w fun e w' => e = .returned (.int .u64 (numN l : Nat)) ∧ w = w' := by
  have hl := h.len; rw [List.length_map, Nat.mul_one] at hl; have HL := Lib.hid hl; clear hl; go_enter Tryz.func117, Tryz.ntmps117; go_wp2
  go_loop [3, 8] (fun v i => ∃ k : Nat, k ≤ n ∧ i = .int .i64 k ∧ v = .int .u64 (numN (l.take k) : Nat)) (fun _ i => n - (intOf i).toNat)
  case atStart => exact ⟨0, Nat.zero_le _, rfl, rfl⟩
  case round =>
    obtain ⟨k, hk, rfl, rfl⟩ := hrel
    by_cases hkn : k < n
    · obtain ⟨a, x, rfl, hb, hc, hx, ht⟩ := h.byteAt hkn; have hkn' : (k : Int) < (n : Int) := by omega
      have bx := x.toNat_lt; have HT := Lib.hid ht; have HX := Lib.hid hx; clear ht hx; go_wp2
      go_round
      case rel =>
        refine ⟨k + 1, by omega, by go_num, ?_⟩; refine ret_u64 ?_; have hlk : (l.take k).length = k := by rw [List.length_take, HL.out]; omega
        have hlt := numN_lt (l.take k); rw [hlk] at hlt; rw [or_step _ _ _ hlt bx (by omega), HT.out, numN_append, hlk]; simp [numN]
      case measure => simp [intOf]; omega
    · go_wp2; go_ret; have : l.take k = l := List.take_of_length_le (by rw [HL.out]; omega); rw [this]; exact ⟨rfl, rfl⟩
end Go.Proofs.YtlaiocdnddnnaaaGreatDoor
namespace Go.Proofs.YtlaiocdnddnnaaaGreatDoor
open Go.RowKit Go.Lib
theorem clone_any {w : World} {B n c : Nat} {A : Option Addr} {l : List UInt8} (h : Rd w B 1 A n (l.map bv)) (hB : B ≤ w.heap.size) (hn : n ≤ 140737488355328) :
    Calls Tryz.prog 75 #[.slice A n c] w fun e w' => ∃ v', e = .returned v' ∧ w'.ownsRow w.heap.size 5 1 v' n (l.map bv) ∧ Below w.heap.size w w' := by
  have he := fun W => Lib.run_eql_slice_nil (P := Tryz.prog) W 35 5 A n c 0 0 Tryz.underlying35
  cases A with
  | none =>
    have hn0 : n = 0 := by
      rcases Nat.eq_zero_or_pos n with h0 | h0
      · exact h0
      · obtain ⟨a, ha, _⟩ := h.at_ h0; cases ha
    subst hn0; have hl : l = [] := List.eq_nil_of_length_eq_zero h.blen; subst hl; go_enter Tryz.func75, Tryz.ntmps75; go_wp2; go_ret; exact ⟨_, rfl, World.ownsRow_nil _ _ _ _, Below.refl _ _⟩
  | some a =>
    go_enter Tryz.func75, Tryz.ntmps75
    go_wp2_with (at_builtin; refine wpList_app bytesRow rfl (.tmp 5) (.tmp 6) rfl rfl rfl (World.ownsRow_made (base := w.heap.size) (size := 1) w #[] 0 (Nat.le_refl _) (by simp [maxLen]) (by simp)) (h.belowMono ((Below.refl w.heap.size w).alloc (Nat.le_refl _) _) hB) (bv_one _) ?_ ?_ ?_ ?_)
    · unfold maxLen; omega
    · omega
    · simp
    · intro v' w' ho _ hbel; go_wp2; go_ret; exact ⟨v', rfl, by simpa using ho, ((Below.refl _ _).alloc (Nat.le_refl _) _).trans hbel⟩
theorem i32_or_nat (a b : Nat) (ha : a % 1024 = 0) (hb : b < 1024) (h : a + b < 2147483648) : bits .or .i32 (a : Int) (b : Int) = ((a + b : Nat) : Int) := by
  show IntKind.i32.wrap ((BitVec.ofInt 32 (a : Int) ||| BitVec.ofInt 32 (b : Int)).toNat : Int) = _
  rw [BitVec.toNat_or, BitVec.ofInt_natCast, BitVec.ofInt_natCast, BitVec.toNat_ofNat, BitVec.toNat_ofNat, Nat.mod_eq_of_lt (by omega), Nat.mod_eq_of_lt (by omega), nat_join 10 a b ha hb]; exact IntWalk.i32_in _ (by omega)
theorem i32_or (a b : Int) (h0 : 0 ≤ a) (ha : a % 1024 = 0) (h1 : 0 ≤ b) (hb : b < 1024) (h : a + b < 2147483648) : bits .or .i32 a b = a + b := by
  have := i32_or_nat a.toNat b.toNat (by omega) (by omega) (by omega); rw [Int.toNat_of_nonneg h0, Int.toNat_of_nonneg h1] at this; rw [this]; omega
theorem i32_and (a : Int) (h0 : 0 ≤ a) (h : a < 2147483648) : bits .and .i32 a 1023 = a % 1024 := by
  obtain ⟨n, rfl⟩ : ∃ n : Nat, a = n := ⟨a.toNat, by omega⟩
  show IntKind.i32.wrap ((BitVec.ofInt 32 (n : Int) &&& BitVec.ofInt 32 (1023 : Int)).toNat : Int) = _
  rw [BitVec.toNat_and, BitVec.ofInt_natCast, BitVec.toNat_ofNat, Nat.mod_eq_of_lt (by omega), show (BitVec.ofInt 32 (1023 : Int)).toNat = 1023 by decide, nat_mask10]; rw [IntWalk.i32_in _ (by omega)]; omega
theorem own_iterAt {w : World} {base n k g : Nat} {e : TypeId} {v : Value} {xs : List Value} {s : ByteArray} {pos : Nat} (h : w.ownsRow base e k v n xs) (hk : w.heap[g]? = some (.stringIter s pos)) (pos' : Nat) : (w.iterAt g s pos').ownsRow base e k v n xs := by
  refine ⟨h.1, ?_⟩
  rcases h.2 with h2 | ⟨b, cap, cur, hv, hb, hh, r⟩
  · exact .inl h2
  · refine .inr ⟨b, cap, cur, hv, hb, ?_, r⟩
    rw [iterAt_other _ _ _ _ _ (by
      rintro rfl; rw [hk] at hh
      cases hh)]
    exact hh
theorem own_ne_iter {w : World} {base n k g : Nat} {e : TypeId} {v : Value} {xs : List Value} {s : ByteArray} {pos : Nat} (h : w.ownsRow base e k v n xs) (hk : w.heap[g]? = some (.stringIter s pos)) : some g ≠ v.ownBlock := by
  rcases h.2 with ⟨rfl, _⟩ | ⟨b, cap, cur, rfl, hb, hh, r⟩
  · simp [Value.ownBlock]
  · simp only [Value.ownBlock, ne_eq, Option.some.injEq]; rintro rfl; rw [hk] at hh
    cases hh
theorem iter_grew {w w' : World} {base n k g : Nat} {e : TypeId} {v v' : Value} {xs : List Value} {s : ByteArray} {pos : Nat} {o : Obj} (h : w.ownsRow base e k v n xs) (hk : w.heap[g]? = some (.stringIter s pos)) (hg : Grew (w.alloc o) w' v v') : w'.heap[g]? = some (.stringIter s pos) := by
  have hlt : g < w.heap.size := (Array.getElem?_eq_some_iff.1 hk).1; rw [hg.grown.block g (by simp; omega) (own_ne_iter h hk), Below.heap_alloc w o g hlt, hk]
theorem iterPos_at {w : World} {g : Nat} {s : ByteArray} {pos : Nat} (hk : w.heap[g]? = some (.stringIter s pos)) : w.iterPos g = pos := by simp [World.iterPos, hk]
theorem put16_any {w : World} {base n : Nat} {v : Value} {l : List UInt8} {r : Int} (ho : w.ownsRow base 5 1 v n (l.map bv)) (hB : base ≤ w.heap.size) (hn : n ≤ 100000000000000) :
    Calls Tryz.prog 95 #[v, .int .i32 r] w fun e w' => ∃ v', e = .returned v' ∧ w'.ownsRow base 5 1 v' (n + 2) ((l ++ b2 r).map bv) ∧ Below base w w' ∧ ∀ (g : Nat) (s : ByteArray) (p : Nat), w.heap[g]? = some (.stringIter s p) → w'.heap[g]? = some (.stringIter s p) := by
  go_enter Tryz.func95, Tryz.ntmps95
  go_wp2_with (at_builtin; refine wpList_app bytesRow rfl (.tmp 5) (.tmp 11) rfl rfl rfl (ho.alloc _) (Rd.fresh _ _ 1 2 _ rfl) ?_ ?_ ?_ ?_ ?_)
  · intro u hu; simp at hu; rcases hu with rfl | rfl <;> rfl
  · unfold maxLen; omega
  · omega
  · simp; omega
  intro v2 w2 o2 g2 b2'; have hit : ∀ (g : Nat) (s : ByteArray) (p : Nat), w.heap[g]? = some (.stringIter s p) → w2.heap[g]? = some (.stringIter s p) := fun g s p hk => iter_grew ho hk g2; clear g2
  have o3 : w2.ownsRow base 5 1 v2 (n + 2) ((l ++ b2 r).map bv) := by
    rw [List.map_append, b2, List.map_cons, List.map_cons, List.map_nil, bv_by8, bv_by8]; exact o2
  have hb := ((Below.refl base w).alloc hB _).trans b2'; go_wp2; go_ret; exact ⟨_, rfl, o3, hb, hit⟩
end Go.Proofs.YtlaiocdnddnnaaaGreatDoor
