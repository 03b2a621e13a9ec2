/- Texts in order: by runes and by bytes they stand alike, as long as they are valid. No program; no condition but that. -/
/- Decimals in words: what dec.Text and the reference's DecText write, as lists of bytes. No program; no condition. -/
/- Values, plainly: their five forms, their order. No program; no condition but the forms' own. -/
/- dec: tell, Check, taken, Int by their contracts. Condition: within the bits. -/
/- cmp.Compare at three types; val's rank, truthText, faultText, Fault, own, filled, Same; the law's N, S, by their contracts. No condition. -/
/- dec: full, Add, Sub, Compare, Norm by their contracts. Condition: what is handed in stands. -/
import Derived.Test.YtngkolcpbgibcaaGreatDoorJoin
import GoSem.Op.String
import Derived.Test.YtngkolcpbgibcaaGreatDoorW2
import Derived.Lib.ItoaNum
import Derived.Test.YtngkolcpbgibcaaGreatDoorWide
import Derived.Test.YtngkolcpbgibcaaGreatDoorW4
set_option linter.unusedVariables false
set_option linter.unusedSimpArgs false
namespace Go.Proofs.YtngkolcpbgibcaaGreatDoor
open Go.Lib Go.Op
def cmpR : List Int → List Int → Int
  | [], [] => 0
  | [], _ :: _ => -1
  | _ :: _, [] => 1
  | a :: r, b :: s => if a < b then -1 else if b < a then 1 else cmpR r s
theorem cmpR_eq {a b : Int} {r s : List Int} (h : a = b) : cmpR (a :: r) (b :: s) = cmpR r s := by rw [cmpR, if_neg (by omega), if_neg (by omega)]
end Go.Proofs.YtngkolcpbgibcaaGreatDoor
namespace Go.Proofs.YtngkolcpbgibcaaGreatDoor
def bt (d : Nat) : UInt8 := UInt8.ofNat (48 + d)
theorem decDigits_digs : ∀ (k n : Nat), n ≤ k → 0 < n → Lib.decDigits n = ((digs n).map bt).reverse
  | 0, n, h, h0 => by omega
  | k + 1, n, h, h0 => by
    rw [Lib.decDigits, digs_pos h0]
    by_cases hn : n < 10
    · rw [dif_pos hn, Nat.mod_eq_of_lt hn, Nat.div_eq_of_lt hn, digs_zero]; rfl
    · rw [dif_neg hn, decDigits_digs k (n / 10) (by omega) (by omega)]; simp [bt]
theorem decDigits_0 : Lib.decDigits 0 = [48] := by rw [Lib.decDigits]; rfl
def padded (n s : Nat) : List Nat := digs n ++ List.replicate (s + 1 - (digs n).length) 0
theorem padded_len (n s : Nat) : s + 1 ≤ (padded n s).length := by simp [padded]; omega
def rb (l : List Nat) (s : Nat) : Nat → List UInt8
  | 0 => []
  | i + 1 => bt (l.getD i 0) :: ((if i = s ∧ 0 < i then [46] else []) ++ rb l s i)
def body (l : List Nat) (s : Nat) : List UInt8 := ((l.drop s).map bt).reverse ++ (if 0 < s then [46] else []) ++ ((l.take s).map bt).reverse
def decTx (m : Int) (s : Nat) : List UInt8 := (if m < 0 then [45] else []) ++ body (padded m.natAbs s) s
theorem prog_pad (n s : Nat) : List.replicate (s + 1 - (Lib.decDigits n).length) 48 ++ Lib.decDigits n = ((padded n s).map bt).reverse := by
  by_cases h : n = 0
  · subst h; rw [decDigits_0, padded, digs_zero]; simp [bt, ← List.replicate_succ']
  · rw [decDigits_digs n n (Nat.le_refl _) (by omega), padded]; simp [bt]
theorem prog_point {l : List Nat} {s : Nat} (h : s + 1 ≤ l.length) (h0 : 0 < s) :
    (((l.map bt).reverse).take (l.length - s) ++ [46] ++ ((l.map bt).reverse).drop (l.length - s)) = body l s := by
  unfold body; rw [if_pos h0, List.take_reverse, List.drop_reverse]; simp [List.length_map, show l.length - (l.length - s) = s from by omega]
theorem prog_whole {l : List Nat} : (l.map bt).reverse = body l 0 := by simp [body]
end Go.Proofs.YtngkolcpbgibcaaGreatDoor
namespace Go.Proofs.YtngkolcpbgibcaaGreatDoor
inductive VX where
  | blank
  | num (m : Int) (s : Nat)
  | str (t : List UInt8)
  | bool (b : Bool)
  | err (e : Int)
namespace VX
def kind : VX → Int
  | blank => 0
  | num .. => 1
  | str .. => 2
  | bool .. => 3
  | err .. => 4
end VX
def rk (b : Bool) : Int := if b then 1 else 0
def OkX : VX → Prop
  | .num m s => Gd m s
  | .str t => uE t = 0
  | .err e => e = 0 ∨ e = 7 ∨ e = 15 ∨ e = 23 ∨ e = 29 ∨ e = 36 ∨ e = 42
  | _ => True
def fillX : VX → VX → VX
  | .blank, .num .. => .num 0 0
  | .blank, .str .. => .str []
  | .blank, .bool .. => .bool false
  | a, _ => a
def cmpF : VX → VX → Int
  | .num m s, .num n t => cmp (val m s) (val n t)
  | .str a, .str b => cmpR (rns a) (rns b)
  | .bool a, .bool b => cmp (rk a) (rk b)
  | .err a, .err b => cmp a b
  | a, b => cmp a.kind b.kind
def cmpX (a b : VX) : Int := cmpF (fillX a b) (fillX b a)
end Go.Proofs.YtngkolcpbgibcaaGreatDoor
namespace Go.Proofs.YtngkolcpbgibcaaGreatDoor
open Go.RowKit
def dv (r : DR) : Value := .tuple #[.agg #[.int .i64 r.m, .int .i64 (r.s : Nat)], .int .i64 (r.e : Nat)]
theorem dv_parts (r : DR) : dv r = .tuple #[.agg #[.int .i64 r.m, .int .i64 (r.s : Nat)], .int .i64 (r.e : Nat)] := rfl
theorem tell_any {w : World} {b : Bool} {n s : Nat} (hn : n < 340282366920938463463374607431768211456) (hs : s ≤ 1000) :
    Calls Tryz.prog 87 #[wd b n, .int .i64 s] w fun e w' => e = .returned (dv (tlb b n s)) ∧ Below w.heap.size w w' := by
  have hlt : (strip s n).1 < 340282366920938463463374607431768211456 := by have := strip_le s n; omega
  have HS := Lib.hid (fun w : World => shorten_any (w := w) (b := b) hn hs); have HN := Lib.hid (fun w : World => narrow_any (w := w) (b := b) hlt); have HT := Lib.hid (show tlb b n s = if (strip s n).1 ≤ most b then ⟨sgn b (strip s n).1, (strip s n).2, 0⟩ else ⟨0, 0, 8⟩ from rfl); clear hn hs hlt; generalize (strip s n).1 = m at *; generalize (strip s n).2 = t at *
  have H0 : Hid (SB w 2 [(w.heap.size, 119, wc3 b n), (w.heap.size + 1, 30, #[.int .i64 0, .int .i64 0])] ((w.alloc (.cells #[.bool b, .int .u64 (hi n : Nat), .int .u64 (lo n : Nat)] 119)).alloc (.cells #[.int .i64 0, .int .i64 0] 30))) := Lib.hid
    ((sb1 w 119 _).push (by simp) 30 _).swap
  rw [wd_parts b n]
  by_cases hm : m ≤ most b
  · have HV := Lib.hid (show tlb b n s = ⟨sgn b m, t, 0⟩ by rw [HT.out, if_pos hm]); have HB := Lib.hid (show nrv b m = sgn b m ∧ nrw b m = true by unfold nrv nrw; simp [hm]); clear hm HT; go_enter Tryz.func87, Tryz.ntmps87
    go_wp2_with fail
    refine (HS.out _).mono ?_; rintro e w1 ⟨rfl, hb⟩; rw [wd_parts]; have hB := H0.out.call hb; clear H0 hb; have k1 := hB.bk _ (List.mem_cons_self ..); unfold wc3 at k1; have c10 := k1.cell 0; have c11 := k1.cell 1; have c12 := k1.cell 2; have z10 := k1.frozen 0; have z11 := k1.frozen 1; have z12 := k1.frozen 2; have hne : ∀ x ∈ ([(w.heap.size + 1, 30, #[.int .i64 0, .int .i64 0])] : List (Nat × TypeId × Array Value)), x.1 ≠ w.heap.size := by simp
    unfold wc3 at hB; have HF := Lib.hid (SB.set3 hB (Nat.le_refl _) hne (.bool b) (.int .u64 (hi m : Nat)) (.int .u64 (lo m : Nat))); clear k1 hB hne
    go_wp2_with fail
    refine (HN.out _).mono ?_; rintro e w2 ⟨rfl, hb⟩; rw [HB.out.1, HB.out.2]; have hB := HF.out.call hb; clear hb HF c10 c11 c12 z10 z11 z12; have k2 := hB.bk _ (List.mem_cons_of_mem _ (List.mem_cons_self ..)); have hbel := hB.bel; have z20 := k2.frozen 0; have z21 := k2.frozen 1; have c20 := k2.cell 0; have c21 := k2.cell 1; clear k2 hB; go_wp2; refine bodyPost_ret (v := .tuple #[.agg #[.int .i64 (sgn b m), .int .i64 (t : Nat)], .int .i64 0]) ?_ rfl ⟨by rw [HV.out]; rfl, (hbel.setCell (by simp) _).setCell (by simp) _⟩; simp [results, Tryz.results87, go_sem, c20, c21]
  · have HV := Lib.hid (show tlb b n s = ⟨0, 0, 8⟩ by rw [HT.out, if_neg hm]); have HB := Lib.hid (show nrv b m = 0 ∧ nrw b m = false by unfold nrv nrw; simp [hm]); clear hm HT; go_enter Tryz.func87, Tryz.ntmps87
    go_wp2_with fail
    refine (HS.out _).mono ?_; rintro e w1 ⟨rfl, hb⟩; rw [wd_parts]; have hB := H0.out.call hb; clear H0 hb; have k1 := hB.bk _ (List.mem_cons_self ..); unfold wc3 at k1; have c10 := k1.cell 0; have c11 := k1.cell 1; have c12 := k1.cell 2; have z10 := k1.frozen 0; have z11 := k1.frozen 1; have z12 := k1.frozen 2; have hne : ∀ x ∈ ([(w.heap.size + 1, 30, #[.int .i64 0, .int .i64 0])] : List (Nat × TypeId × Array Value)), x.1 ≠ w.heap.size := by simp
    unfold wc3 at hB; have HF := Lib.hid (SB.set3 hB (Nat.le_refl _) hne (.bool b) (.int .u64 (hi m : Nat)) (.int .u64 (lo m : Nat))); clear k1 hB hne
    go_wp2_with fail
    refine (HN.out _).mono ?_; rintro e w2 ⟨rfl, hb⟩; rw [HB.out.1, HB.out.2]; have hB := HF.out.call hb; clear hb HF c10 c11 c12 z10 z11 z12; have k2 := hB.bk _ (List.mem_cons_of_mem _ (List.mem_cons_self ..)); have hbel := hB.bel; have z20 := k2.frozen 0; have z21 := k2.frozen 1; have c20 := k2.cell 0; have c21 := k2.cell 1; clear k2 hB; go_wp2; refine bodyPost_ret (v := .tuple #[.agg #[.int .i64 0, .int .i64 0], .int .i64 8]) ?_ rfl ⟨by rw [HV.out]; rfl, (hbel.setCell (by simp) _).setCell (by simp) _⟩; simp [results, Tryz.results87, go_sem, c20, c21]
def ckE (m s : Int) : Int := if s < 0 ∨ 9 < s ∨ (0 < s ∧ m % 10 = 0) then 1 else 0
theorem tmod10 (m : Int) : m.tmod 10 = 0 ↔ m % 10 = 0 := ⟨fun h => Int.emod_eq_zero_of_dvd (Int.dvd_of_tmod_eq_zero h), fun h => Int.tmod_eq_zero_of_dvd (Int.dvd_of_emod_eq_zero h)⟩
theorem check_any {w : World} {m s : Int} :
    Calls Tryz.prog 63 #[.agg #[.int .i64 m, .int .i64 s]] w fun e w' => e = .returned (.int .i64 (ckE m s)) ∧ Below w.heap.size w w' := by
  by_cases h0 : s < 0
  · have HV := Lib.hid (show ckE m s = 1 by unfold ckE; rw [if_pos (.inl h0)]); go_enter Tryz.func63, Tryz.ntmps63; go_wp2; go_ret; exact ⟨by rw [HV.out]; rfl, bel0 _ _⟩
  · by_cases h9 : 9 < s
    · have HV := Lib.hid (show ckE m s = 1 by unfold ckE; rw [if_pos (.inr (.inl h9))]); go_enter Tryz.func63, Tryz.ntmps63; go_wp2; go_ret; exact ⟨by rw [HV.out]; rfl, bel0 _ _⟩
    · by_cases hp : 0 < s
      · by_cases hm : m % 10 = 0
        · have HV := Lib.hid (show ckE m s = 1 by unfold ckE; rw [if_pos (.inr (.inr ⟨hp, hm⟩))]); have hm' : (m.tmod 10 == 0) = true := by simpa using (tmod10 m).2 hm
          clear hm; go_enter Tryz.func63, Tryz.ntmps63; go_wp2; go_ret; exact ⟨by rw [HV.out]; rfl, bel0 _ _⟩
        · have HV := Lib.hid (show ckE m s = 0 by unfold ckE; rw [if_neg (by omega)]); have hm' : (m.tmod 10 == 0) = false := by simpa using fun h => hm ((tmod10 m).1 h)
          clear hm; go_enter Tryz.func63, Tryz.ntmps63; go_wp2; go_ret; exact ⟨by rw [HV.out]; rfl, bel0 _ _⟩
      · have hs : s = 0 := by omega
        subst hs; have HV := Lib.hid (show ckE m 0 = 0 by unfold ckE; rw [if_neg (by omega)]); clear h0 h9 hp; go_enter Tryz.func63, Tryz.ntmps63; go_wp2; go_ret; exact ⟨by rw [HV.out]; rfl, bel0 _ _⟩
theorem Gd.ck {m : Int} {s : Nat} (h : Gd m s) : ckE m s = 0 := by
  have h9 := h.s9; have hl := h.last; unfold ckE; rw [if_neg (by omega)]
theorem taken_any {w : World} {m n : Int} {s t : Nat} (hx : Gd m s) (hy : Gd n t) :
    Calls Tryz.prog 89 #[.agg #[.int .i64 m, .int .i64 (s : Nat)], .agg #[.int .i64 n, .int .i64 (t : Nat)]] w fun e w' => e = .returned (.bool true) ∧ Below w.heap.size w w' := by
  have H1 := Lib.hid hx.ck; have H2 := Lib.hid hy.ck; clear hx hy; go_enter Tryz.func89, Tryz.ntmps89
  go_wp2_with fail
  refine check_any.mono ?_; rintro e w1 ⟨rfl, hb⟩; rw [H1.out]; obtain ⟨k1, k2, hb', -⟩ := bx2 hb; clear hb; have c20 := k2.cell 0; have c21 := k2.cell 1; have hsz := hb'.size; clear k1 k2
  go_wp2_with fail
  refine check_any.mono ?_; rintro e w2 ⟨rfl, hb⟩; rw [H2.out]; have hb2 := hb'.trans (hb.mono hsz); clear c20 c21 hb; go_wp2; go_ret; exact ⟨rfl, hb2⟩
theorem int_any {w : World} {n : Int} :
    Calls Tryz.prog 32 #[.int .i64 n] w fun e w' => e = .returned (.agg #[.int .i64 n, .int .i64 0]) ∧ Below w.heap.size w w' := by
  go_enter Tryz.func32, Tryz.ntmps32; go_wp2; exact bodyPost_ret (v := .agg #[.int .i64 n, .int .i64 0]) (by simp [results, Tryz.results32, go_sem]) rfl ⟨rfl, bel0 _ _⟩
end Go.Proofs.YtngkolcpbgibcaaGreatDoor
namespace Go.Proofs.YtngkolcpbgibcaaGreatDoor
open Go.RowKit
theorem isNaN_int {w : World} {x : Int} : Calls Tryz.prog 158 #[.int .i64 x] w fun e w' => e = .returned (.bool false) ∧ w' = w := by
  go_enter Tryz.func158, Tryz.ntmps158; go_wp2; go_ret; exact ⟨rfl, rfl⟩
theorem cmp_int {w : World} (x y : Int) : Calls Tryz.prog 83 #[.int .i64 x, .int .i64 y] w fun e w' => e = .returned (.int .i64 (cmp x y)) ∧ w' = w := by
  have HN := Lib.hid (fun (W : World) (z : Int) => isNaN_int (w := W) (x := z)); obtain ⟨c, hc⟩ : ∃ c, cmp x y = c := ⟨_, rfl⟩
  have HC := Lib.hid hc; rw [hc]; clear hc
  rcases Int.lt_trichotomy x y with h | h | h
  · obtain rfl : c = -1 := by rw [← HC.out]; unfold cmp; rw [if_pos h]
    go_enter Tryz.func83, Tryz.ntmps83
    go_wp2_with fail
    refine (HN.out _ _).mono ?_; rintro e w1 ⟨rfl, rfl⟩
    go_wp2_with fail
    refine (HN.out _ _).mono ?_; rintro e w1 ⟨rfl, rfl⟩; go_wp2; go_ret; exact ⟨rfl, rfl⟩
  · subst h; obtain rfl : c = 0 := by rw [← HC.out]; unfold cmp; simp
    go_enter Tryz.func83, Tryz.ntmps83
    go_wp2_with fail
    refine (HN.out _ _).mono ?_; rintro e w1 ⟨rfl, rfl⟩
    go_wp2_with fail
    refine (HN.out _ _).mono ?_; rintro e w1 ⟨rfl, rfl⟩; go_wp2; go_ret; exact ⟨rfl, rfl⟩
  · have h' : ¬ x < y := by omega
    obtain rfl : c = 1 := by rw [← HC.out]; unfold cmp; rw [if_neg h', if_neg (by omega)]
    go_enter Tryz.func83, Tryz.ntmps83
    go_wp2_with fail
    refine (HN.out _ _).mono ?_; rintro e w1 ⟨rfl, rfl⟩
    go_wp2_with fail
    refine (HN.out _ _).mono ?_; rintro e w1 ⟨rfl, rfl⟩; go_wp2; go_ret; exact ⟨rfl, rfl⟩
theorem isNaN_i64 {w : World} {x : Int} : Calls Tryz.prog 160 #[.int .i64 x] w fun e w' => e = .returned (.bool false) ∧ w' = w := by
  go_enter Tryz.func160, Tryz.ntmps160; go_wp2; go_ret; exact ⟨rfl, rfl⟩
theorem cmp_i64 {w : World} (x y : Int) : Calls Tryz.prog 85 #[.int .i64 x, .int .i64 y] w fun e w' => e = .returned (.int .i64 (cmp x y)) ∧ w' = w := by
  have HN := Lib.hid (fun (W : World) (z : Int) => isNaN_i64 (w := W) (x := z)); obtain ⟨c, hc⟩ : ∃ c, cmp x y = c := ⟨_, rfl⟩
  have HC := Lib.hid hc; rw [hc]; clear hc
  rcases Int.lt_trichotomy x y with h | h | h
  · obtain rfl : c = -1 := by rw [← HC.out]; unfold cmp; rw [if_pos h]
    go_enter Tryz.func85, Tryz.ntmps85
    go_wp2_with fail
    refine (HN.out _ _).mono ?_; rintro e w1 ⟨rfl, rfl⟩
    go_wp2_with fail
    refine (HN.out _ _).mono ?_; rintro e w1 ⟨rfl, rfl⟩; go_wp2; go_ret; exact ⟨rfl, rfl⟩
  · subst h; obtain rfl : c = 0 := by rw [← HC.out]; unfold cmp; simp
    go_enter Tryz.func85, Tryz.ntmps85
    go_wp2_with fail
    refine (HN.out _ _).mono ?_; rintro e w1 ⟨rfl, rfl⟩
    go_wp2_with fail
    refine (HN.out _ _).mono ?_; rintro e w1 ⟨rfl, rfl⟩; go_wp2; go_ret; exact ⟨rfl, rfl⟩
  · have h' : ¬ x < y := by omega
    obtain rfl : c = 1 := by rw [← HC.out]; unfold cmp; rw [if_neg h', if_neg (by omega)]
    go_enter Tryz.func85, Tryz.ntmps85
    go_wp2_with fail
    refine (HN.out _ _).mono ?_; rintro e w1 ⟨rfl, rfl⟩
    go_wp2_with fail
    refine (HN.out _ _).mono ?_; rintro e w1 ⟨rfl, rfl⟩; go_wp2; go_ret; exact ⟨rfl, rfl⟩
theorem isNaN_rune {w : World} {x : Int} : Calls Tryz.prog 190 #[.int .i32 x] w fun e w' => e = .returned (.bool false) ∧ w' = w := by
  go_enter Tryz.func190, Tryz.ntmps190; go_wp2; go_ret; exact ⟨rfl, rfl⟩
theorem cmp_rune {w : World} (x y : Int) : Calls Tryz.prog 159 #[.int .i32 x, .int .i32 y] w fun e w' => e = .returned (.int .i64 (cmp x y)) ∧ w' = w := by
  have HN := Lib.hid (fun (W : World) (z : Int) => isNaN_rune (w := W) (x := z)); obtain ⟨c, hc⟩ : ∃ c, cmp x y = c := ⟨_, rfl⟩
  have HC := Lib.hid hc; rw [hc]; clear hc
  rcases Int.lt_trichotomy x y with h | h | h
  · obtain rfl : c = -1 := by rw [← HC.out]; unfold cmp; rw [if_pos h]
    go_enter Tryz.func159, Tryz.ntmps159
    go_wp2_with fail
    refine (HN.out _ _).mono ?_; rintro e w1 ⟨rfl, rfl⟩
    go_wp2_with fail
    refine (HN.out _ _).mono ?_; rintro e w1 ⟨rfl, rfl⟩; go_wp2; go_ret; exact ⟨rfl, rfl⟩
  · subst h; obtain rfl : c = 0 := by rw [← HC.out]; unfold cmp; simp
    go_enter Tryz.func159, Tryz.ntmps159
    go_wp2_with fail
    refine (HN.out _ _).mono ?_; rintro e w1 ⟨rfl, rfl⟩
    go_wp2_with fail
    refine (HN.out _ _).mono ?_; rintro e w1 ⟨rfl, rfl⟩; go_wp2; go_ret; exact ⟨rfl, rfl⟩
  · have h' : ¬ x < y := by omega
    obtain rfl : c = 1 := by rw [← HC.out]; unfold cmp; rw [if_neg h', if_neg (by omega)]
    go_enter Tryz.func159, Tryz.ntmps159
    go_wp2_with fail
    refine (HN.out _ _).mono ?_; rintro e w1 ⟨rfl, rfl⟩
    go_wp2_with fail
    refine (HN.out _ _).mono ?_; rintro e w1 ⟨rfl, rfl⟩; go_wp2; go_ret; exact ⟨rfl, rfl⟩
theorem rank_any {w : World} (b : Bool) : Calls Tryz.prog 86 #[.bool b] w fun e w' => e = .returned (.int .i64 (rk b)) ∧ w' = w := by
  cases b
  · go_enter Tryz.func86, Tryz.ntmps86; go_wp2; go_ret; exact ⟨rfl, rfl⟩
  · go_enter Tryz.func86, Tryz.ntmps86; go_wp2; go_ret; exact ⟨rfl, rfl⟩
def sL (l : List UInt8) : Value := .string ⟨l.toArray⟩
def yesL : List UInt8 := [84, 82, 85, 69]
def noL : List UInt8 := [70, 65, 76, 83, 69]
def trL (b : Bool) : List UInt8 := if b then yesL else noL
theorem truthText_any {w : World} (b : Bool) : Calls Tryz.prog 200 #[.bool b] w fun e w' => e = .returned (sL (trL b)) ∧ w' = w := by
  cases b
  · go_enter Tryz.func200, Tryz.ntmps200; go_wp2; go_ret; exact ⟨rfl, rfl⟩
  · go_enter Tryz.func200, Tryz.ntmps200; go_wp2; go_ret; exact ⟨rfl, rfl⟩
theorem fault_any {w : World} (e : Int) : Calls Tryz.prog 30 #[.int .i64 e] w fun x w' => x = .returned (.agg #[.int .i64 4, .int .i64 0, .int .i64 0, .string ⟨#[]⟩, .bool false, .int .i64 e]) ∧ Below w.heap.size w w' := by
  go_enter Tryz.func30, Tryz.ntmps30; go_wp2; exact bodyPost_ret (v := .agg #[.int .i64 4, .int .i64 0, .int .i64 0, .string ⟨#[]⟩, .bool false, .int .i64 e]) (by simp [results, Tryz.results30, go_sem]) rfl ⟨rfl, bel0 _ _⟩
theorem lS_any {w : World} (t : ByteArray) : Calls Tryz.prog 29 #[.string t] w fun x w' => x = .returned (.agg #[.int .i64 2, .int .i64 0, .int .i64 0, .string t, .bool false, .int .i64 0]) ∧ Below w.heap.size w w' := by
  go_enter Tryz.func29, Tryz.ntmps29; go_wp2; exact bodyPost_ret (v := .agg #[.int .i64 2, .int .i64 0, .int .i64 0, .string t, .bool false, .int .i64 0]) (by simp [results, Tryz.results29, go_sem]) rfl ⟨rfl, bel0 _ _⟩
theorem filled_non {w : World} (k : Int) (m s : Int) (t : ByteArray) (b : Bool) (e : Int) (k' : Int) (m' s' : Int) (t' : ByteArray) (b' : Bool) (e' : Int) (h : ¬ k = 0) : Calls Tryz.prog 82 #[.agg #[.int .i64 k, .int .i64 m, .int .i64 s, .string t, .bool b, .int .i64 e], .agg #[.int .i64 k', .int .i64 m', .int .i64 s', .string t', .bool b', .int .i64 e']] w fun x w' => x = .returned (.agg #[.int .i64 k, .int .i64 m, .int .i64 s, .string t, .bool b, .int .i64 e]) ∧ Below w.heap.size w w' := by
  go_enter Tryz.func82, Tryz.ntmps82; go_wp2; exact bodyPost_ret (v := .agg #[.int .i64 k, .int .i64 m, .int .i64 s, .string t, .bool b, .int .i64 e]) (by simp [results, Tryz.results82, go_sem]) rfl ⟨rfl, bel2 _ _ _ _⟩
theorem filled_blank {w : World} (k' : Int) (m' s' : Int) (t' : ByteArray) (b' : Bool) (e' : Int) (h : ¬ k' = 4) : Calls Tryz.prog 82 #[.agg #[.int .i64 0, .int .i64 0, .int .i64 0, .string ⟨#[]⟩, .bool false, .int .i64 0], .agg #[.int .i64 k', .int .i64 m', .int .i64 s', .string t', .bool b', .int .i64 e']] w fun x w' => x = .returned (.agg #[.int .i64 k', .int .i64 0, .int .i64 0, .string ⟨#[]⟩, .bool false, .int .i64 0]) ∧ Below w.heap.size w w' := by
  go_enter Tryz.func82, Tryz.ntmps82; go_wp2; exact bodyPost_ret (v := .agg #[.int .i64 k', .int .i64 0, .int .i64 0, .string ⟨#[]⟩, .bool false, .int .i64 0]) (by simp [results, Tryz.results82, go_sem]) rfl ⟨rfl, bel2 _ _ _ _⟩
theorem filled_err {w : World} (m' s' : Int) (t' : ByteArray) (b' : Bool) (e' : Int) : Calls Tryz.prog 82 #[.agg #[.int .i64 0, .int .i64 0, .int .i64 0, .string ⟨#[]⟩, .bool false, .int .i64 0], .agg #[.int .i64 4, .int .i64 m', .int .i64 s', .string t', .bool b', .int .i64 e']] w fun x w' => x = .returned (.agg #[.int .i64 0, .int .i64 0, .int .i64 0, .string ⟨#[]⟩, .bool false, .int .i64 0]) ∧ Below w.heap.size w w' := by
  go_enter Tryz.func82, Tryz.ntmps82; go_wp2; exact bodyPost_ret (v := .agg #[.int .i64 0, .int .i64 0, .int .i64 0, .string ⟨#[]⟩, .bool false, .int .i64 0]) (by simp [results, Tryz.results82, go_sem]) rfl ⟨rfl, bel2 _ _ _ _⟩
end Go.Proofs.YtngkolcpbgibcaaGreatDoor
namespace Go.Proofs.YtngkolcpbgibcaaGreatDoor
open Go.RowKit
theorem full_lt {m : Int} {s : Nat} (h : Gd m s) : m.natAbs * 10 ^ (9 - s) ≤ 9223372036854775808000000000 := by
  have h1 := h.lo; have h2 := h.hi; have h3 : 10 ^ (9 - s) ≤ 10 ^ 9 := pow10_le (by omega); exact Nat.le_trans (Nat.mul_le_mul (show m.natAbs ≤ 9223372036854775808 by omega) h3) (by decide)
theorem val_sgn (m : Int) (s : Nat) : sgn (decide (m < 0)) (m.natAbs * 10 ^ (9 - s)) = val m s := by
  rw [sgn_mul, sgn_natAbs]; unfold val; simp
theorem sgn_not (b : Bool) (n : Nat) : sgn (!b) n = -sgn b n := by unfold sgn; cases b <;> simp
set_option maxRecDepth 100000 in
set_option maxHeartbeats 2000000 in
theorem full_any {w : World} {m : Int} {s : Nat} (h : Gd m s) :
    Calls Tryz.prog 92 #[.agg #[.int .i64 m, .int .i64 (s : Nat)]] w fun e w' => e = .returned (wd (decide (m < 0)) (m.natAbs * 10 ^ (9 - s))) ∧ Below w.heap.size w w' := by
  have hf := full_lt h; have hp : 10 ^ (9 - s) ≤ 10 ^ 9 := pow10_le (by omega); have HW := Lib.hid (fun W : World => widen_any (w := W) h.lo h.hi); have HP := Lib.hid (fun W : World => power_b (w := W) (k := 9 - s) (by omega)); have HT := Lib.hid (fun W : World => times_any (w := W) (b := decide (m < 0)) (n := m.natAbs) (k := 10 ^ (9 - s)) (by omega) (by omega)); have HS := Lib.hid (show IntKind.i64.wrap (9 - (s : Int)) = ((9 - s : Nat) : Int) by have := h.s9; rw [show ((9 - s : Nat) : Int) = 9 - (s : Int) by omega]; exact IntWalk.i64_in _ (by omega)); have HSB : Hid (SB w 2 ([((w.heap.size + 1), 119, #[.bool false, .int .u64 0, .int .u64 0]), (w.heap.size, 30, #[.int .i64 m, .int .i64 (s : Nat)])] : List (Nat × TypeId × Array Value)) ((w.alloc (.cells #[.int .i64 m, .int .i64 (s : Nat)] 30)).alloc (.cells #[.bool false, .int .u64 0, .int .u64 0] 119))) := Lib.hid ((sb1 w 30 _).push (by simp) 119 _); clear hf hp h; generalize decide (m < 0) = b at *; generalize m.natAbs = M at *; generalize 10 ^ (9 - s) = K at *; go_enter Tryz.func92, Tryz.ntmps92; go_wp2
  refine wp_region_phases (S := (S1 w 2 ([((w.heap.size + 1), 119, #[.bool false, .int .u64 0, .int .u64 0]), (w.heap.size, 30, #[.int .i64 m, .int .i64 (s : Nat)])] : List (Nat × TypeId × Array Value)) ([((w.heap.size + 1), 119, #[.bool b, .int .u64 (hi (M * K) : Nat), .int .u64 (lo (M * K) : Nat)]), (w.heap.size, 30, #[.int .i64 m, .int .i64 (s : Nat)])] : List (Nat × TypeId × Array Value)))) (E := (fun _ _ => True)) [8] [(1, Is (.pointer (some ⟨w.heap.size, 0, none⟩))), (2, Is (.pointer (some ⟨(w.heap.size + 1), 0, none⟩)))] [(3, Is (.pointer (some ⟨w.heap.size, 0, none⟩))), (4, Is (.int .i64 m)), (5, Is (.agg #[.bool b, .int .u64 (hi (M) : Nat), .int .u64 (lo (M) : Nat)])), (6, Is (.pointer (some ⟨w.heap.size, 1, none⟩))), (7, Is (.int .i64 (s : Nat))), (8, Is (.int .i64 ((9 - s : Nat) : Int))), (9, Is (.int .u64 (K : Nat))), (10, Is (.agg #[.bool b, .int .u64 (hi (M * K) : Nat), .int .u64 (lo (M * K) : Nat)]))]
    [.op [1] none, .op [3] none, .op [4] none, .op [1] none, .op [6] none, .op [7] none, .op [8] none, .op [5, 9] none, .phase 0 [2, 10] []] (by as_aux_lemma => kernel_rfl) ?_ ?_ ?_ ?_ ?_ ⟨stable_is _ _, stable_is _ _, stable_is _ _, stable_is _ _, stable_is _ _, stable_is _ _, stable_is _ _, stable_is _ _, stable_is _ _, stable_is _ _, trivial⟩ ?_ (HSB.out.drew) ?_ ?_
  · as_aux_lemma => kernel_rfl
  · as_aux_lemma => kernel_rfl
  · as_aux_lemma => kernel_rfl
  · as_aux_lemma => kernel_rfl
  · as_aux_lemma => kernel_rfl
  · exact ⟨rfl, rfl, trivial⟩
  · refine ⟨?_, ?_, ?_, ?_, ?_, ?_, ?_, ?_, ?_, trivial⟩
    · as_aux_lemma =>
        intro vals a W hS hL; have e1 : a.tmps.getD 1 undef = .pointer (some ⟨w.heap.size, 0, none⟩) := hL.1; clear hL; go_simp; exact ⟨⟨fun d hd => by injection hd with hd; subst hd; rfl, fun h => by cases h⟩, hS, trivial⟩
    · as_aux_lemma =>
        intro vals a W hS hL; have e3 : a.tmps.getD 3 undef = .pointer (some ⟨w.heap.size, 0, none⟩) := hL.1; clear hL; have kb : Bk W w.heap.size 30 #[.int .i64 m, .int .i64 (s : Nat)] := hS.bk (.tail _ (.head _)) (.tail _ (.head _)); have f0 := kb.cell 0; clear kb; go_simp; exact ⟨⟨fun d hd => by injection hd with hd; subst hd; rfl, fun h => by cases h⟩, hS, trivial⟩
    · as_aux_lemma =>
        intro vals a W hS hL; have e4 : a.tmps.getD 4 undef = .int .i64 m := hL.1; clear hL; go_simp; refine (HW.out W).mono ?_; rintro e W' ⟨rfl, hb⟩; exact ⟨_, rfl, ⟨fun d hd => by injection hd with hd; subst hd; rfl, fun h => by cases h⟩, hS.call hb, trivial⟩
    · as_aux_lemma =>
        intro vals a W hS hL; have e1 : a.tmps.getD 1 undef = .pointer (some ⟨w.heap.size, 0, none⟩) := hL.1; clear hL; go_simp; exact ⟨⟨fun d hd => by injection hd with hd; subst hd; rfl, fun h => by cases h⟩, hS, trivial⟩
    · as_aux_lemma =>
        intro vals a W hS hL; have e6 : a.tmps.getD 6 undef = .pointer (some ⟨w.heap.size, 1, none⟩) := hL.1; clear hL; have kb : Bk W w.heap.size 30 #[.int .i64 m, .int .i64 (s : Nat)] := hS.bk (.tail _ (.head _)) (.tail _ (.head _)); have f1 := kb.cell 1; clear kb; go_simp; exact ⟨⟨fun d hd => by injection hd with hd; subst hd; rfl, fun h => by cases h⟩, hS, trivial⟩
    · as_aux_lemma =>
        intro vals a W hS hL; have e7 : a.tmps.getD 7 undef = .int .i64 (s : Nat) := hL.1; clear hL; have hs := HS.out; go_simp; exact ⟨⟨fun d hd => by injection hd with hd; subst hd; rfl, fun h => by cases h⟩, hS, trivial⟩
    · as_aux_lemma =>
        intro vals a W hS hL; have e8 : a.tmps.getD 8 undef = .int .i64 ((9 - s : Nat) : Int) := hL.1; clear hL; go_simp; refine (HP.out W).mono ?_; rintro e W' ⟨rfl, hb⟩; exact ⟨_, rfl, ⟨fun d hd => by injection hd with hd; subst hd; rfl, fun h => by cases h⟩, hS.call hb, trivial⟩
    · as_aux_lemma =>
        intro vals a W hS hL; have e5 : a.tmps.getD 5 undef = .agg #[.bool b, .int .u64 (hi (M) : Nat), .int .u64 (lo (M) : Nat)] := hL.1; have e9 : a.tmps.getD 9 undef = .int .u64 (K : Nat) := hL.2.1; clear hL; go_simp; refine (HT.out W).mono ?_; rintro e W' ⟨rfl, hb⟩; exact ⟨_, rfl, ⟨fun d hd => by injection hd with hd; subst hd; rfl, fun h => by cases h⟩, hS.call hb, trivial⟩
    · as_aux_lemma =>
        intro a W vals hv hS hL hp; have e2 : a.tmps.getD 2 undef = .pointer (some ⟨(w.heap.size + 1), 0, none⟩) := hL.1; have e10 : a.tmps.getD 10 undef = .agg #[.bool b, .int .u64 (hi (M * K) : Nat), .int .u64 (lo (M * K) : Nat)] := hL.2.1; clear hL
        match vals, hv, hS with
        | [], _, hS =>
          have hB : SB w 2 ([((w.heap.size + 1), 119, #[.bool false, .int .u64 0, .int .u64 0]), (w.heap.size, 30, #[.int .i64 m, .int .i64 (s : Nat)])] : List (Nat × TypeId × Array Value)) W := hS; have kz := hB.bk _ (List.mem_cons_self ..); have hlt : ∀ x ∈ ([(w.heap.size, 30, #[.int .i64 m, .int .i64 (s : Nat)])] : List (Nat × TypeId × Array Value)), x.1 ≠ (w.heap.size + 1) := by simp <;> omega
          have z0 := kz.frozen 0; have q0 := kz.cell 0; have z1 := kz.frozen 1; have q1 := kz.cell 1; have z2 := kz.frozen 2; have q2 := kz.cell 2; have hF := hB.set3 (by omega) hlt (.bool b : Value) (.int .u64 (hi (M * K) : Nat) : Value) (.int .u64 (lo (M * K) : Nat) : Value); rw [Array.getD_eq_getD_getElem?] at e10; clear hS kz hB; go_simp; exact ⟨hF, trivial, trivial⟩
  · intro a W' vals hd hsz hT hF hv _ hS
    obtain ⟨u, rfl⟩ : ∃ u, vals = [u] := by
      match vals, hv with
      | [u], _ => exact ⟨u, rfl⟩
    have hB : SB w 2 ([((w.heap.size + 1), 119, #[.bool b, .int .u64 (hi (M * K) : Nat), .int .u64 (lo (M * K) : Nat)]), (w.heap.size, 30, #[.int .i64 m, .int .i64 (s : Nat)])] : List (Nat × TypeId × Array Value)) W' := hS; have kz := hB.bk _ (List.mem_cons_self ..); have r0 := kz.cell 0; have r1 := kz.cell 1; have r2 := kz.cell 2; clear kz hS; have e2 : a.tmps.getD 2 undef = .pointer (some ⟨(w.heap.size + 1), 0, none⟩) := hT 2 (by simp); clear hT hF; go_wp2; refine bodyPost_ret (v := .agg #[.bool b, .int .u64 (hi (M * K) : Nat), .int .u64 (lo (M * K) : Nat)]) ?_ hd ⟨rfl, hB.bel⟩; rw [Array.getD_eq_getD_getElem?] at e2; simp [results, Tryz.results92, go_sem, e2, r0, r1, r2]
set_option maxRecDepth 100000 in
set_option maxHeartbeats 2000000 in
theorem dadd_any {w : World} {m n : Int} {s t : Nat} (hx : Gd m s) (hy : Gd n t) :
    Calls Tryz.prog 105 #[.agg #[.int .i64 m, .int .i64 (s : Nat)], .agg #[.int .i64 n, .int .i64 (t : Nat)]] w fun e w' => e = .returned (dv (addD m s n t)) ∧ Below w.heap.size w w' := by
  have HK := Lib.hid (fun W : World => taken_any (w := W) hx hy); have HX := Lib.hid (fun W : World => full_any (w := W) hx); have HY := Lib.hid (fun W : World => full_any (w := W) hy); have f1 := full_lt hx; have f2 := full_lt hy
  have HV := Lib.hid (show addD m s n t = tlb (adb (decide (m < 0)) (decide (n < 0)) (m.natAbs * 10 ^ (9 - s)) (n.natAbs * 10 ^ (9 - t))) (adn (decide (m < 0)) (decide (n < 0)) (m.natAbs * 10 ^ (9 - s)) (n.natAbs * 10 ^ (9 - t))) 9 by
    rw [tlb_eq, ad_sgn, val_sgn, val_sgn]; rfl)
  generalize decide (m < 0) = c at *; generalize decide (n < 0) = d at *; generalize m.natAbs * 10 ^ (9 - s) = M at *; generalize n.natAbs * 10 ^ (9 - t) = N at *; have hle := adn_le c d M N; have HA := Lib.hid (fun W : World => add_any (w := W) (a := c) (b := d) (m := M) (n := N) (by omega)); have HT := Lib.hid (fun W : World => tell_any (w := W) (b := adb c d M N) (n := adn c d M N) (s := 9) (by omega) (by omega)); clear f1 f2 hle hx hy; have H0 : Hid (SB w 3 ([((w.heap.size + 1 + 1), 30, #[.int .i64 0, .int .i64 0]), ((w.heap.size + 1), 30, #[.int .i64 n, .int .i64 (t : Nat)]), (w.heap.size, 30, #[.int .i64 m, .int .i64 (s : Nat)])] : List (Nat × TypeId × Array Value)) (((w.alloc (.cells #[.int .i64 m, .int .i64 (s : Nat)] 30)).alloc (.cells #[.int .i64 n, .int .i64 (t : Nat)] 30)).alloc (.cells #[.int .i64 0, .int .i64 0] 30))) := Lib.hid (((sb1 w 30 _).push (by simp) 30 _).push (by simp) 30 _); go_enter Tryz.func105, Tryz.ntmps105
  go_wp2_with fail
  refine (HK.out _).mono ?_; rintro e w1 ⟨rfl, hb⟩; have HSB := Lib.hid (H0.out.call hb); clear H0 hb; go_wp2
  refine wp_region_phases (S := (S1 w 3 ([((w.heap.size + 1 + 1), 30, #[.int .i64 0, .int .i64 0]), ((w.heap.size + 1), 30, #[.int .i64 n, .int .i64 (t : Nat)]), (w.heap.size, 30, #[.int .i64 m, .int .i64 (s : Nat)])] : List (Nat × TypeId × Array Value)) ([((w.heap.size + 1 + 1), 30, #[.int .i64 ((tlb (adb c d M N) (adn c d M N) 9)).m, .int .i64 (((tlb (adb c d M N) (adn c d M N) 9)).s : Nat)]), ((w.heap.size + 1), 30, #[.int .i64 n, .int .i64 (t : Nat)]), (w.heap.size, 30, #[.int .i64 m, .int .i64 (s : Nat)])] : List (Nat × TypeId × Array Value)))) (E := (fun _ _ => True)) [8] [(2, Is (.pointer (some ⟨w.heap.size, 0, none⟩))), (3, Is (.pointer (some ⟨(w.heap.size + 1), 0, none⟩))), (4, Is (.pointer (some ⟨(w.heap.size + 1 + 1), 0, none⟩)))] [(11, Is (.agg #[.int .i64 m, .int .i64 (s : Nat)])), (12, Is (wd c M)), (13, Is (.agg #[.int .i64 n, .int .i64 (t : Nat)])), (14, Is (wd d N)), (15, Is (wd (adb c d M N) (adn c d M N))), (16, Is (.tuple #[.agg #[.int .i64 ((tlb (adb c d M N) (adn c d M N) 9)).m, .int .i64 (((tlb (adb c d M N) (adn c d M N) 9)).s : Nat)], .int .i64 (((tlb (adb c d M N) (adn c d M N) 9)).e : Nat)])), (17, Is (.agg #[.int .i64 ((tlb (adb c d M N) (adn c d M N) 9)).m, .int .i64 (((tlb (adb c d M N) (adn c d M N) 9)).s : Nat)])), (18, Is (.int .i64 (((tlb (adb c d M N) (adn c d M N) 9)).e : Nat))), (5, Is (.int .i64 (((tlb (adb c d M N) (adn c d M N) 9)).e : Nat)))]
    [.op [2] none, .op [11] none, .op [3] none, .op [13] none, .op [12, 14] none, .op [15] none, .op [16] none, .op [16] none, .phase 0 [4, 17] [], .op [18] none] (by as_aux_lemma => kernel_rfl) ?_ ?_ ?_ ?_ ?_ ⟨stable_is _ _, stable_is _ _, stable_is _ _, stable_is _ _, stable_is _ _, stable_is _ _, stable_is _ _, stable_is _ _, stable_is _ _, stable_is _ _, stable_is _ _, stable_is _ _, trivial⟩ ?_ (HSB.out.drew) ?_ ?_
  · as_aux_lemma => kernel_rfl
  · as_aux_lemma => kernel_rfl
  · as_aux_lemma => kernel_rfl
  · as_aux_lemma => kernel_rfl
  · as_aux_lemma => kernel_rfl
  · exact ⟨rfl, rfl, rfl, trivial⟩
  · refine ⟨?_, ?_, ?_, ?_, ?_, ?_, ?_, ?_, ?_, ?_, trivial⟩
    · as_aux_lemma =>
        intro vals a W hS hL; have e2 : a.tmps.getD 2 undef = .pointer (some ⟨w.heap.size, 0, none⟩) := hL.1; clear hL; have kb : Bk W w.heap.size 30 #[.int .i64 m, .int .i64 (s : Nat)] := hS.bk (.tail _ (.tail _ (.head _))) (.tail _ (.tail _ (.head _))); have f0 := kb.cell 0; have f1 := kb.cell 1; clear kb; go_simp; exact ⟨⟨fun d hd => by injection hd with hd; subst hd; rfl, fun h => by cases h⟩, hS, trivial⟩
    · as_aux_lemma =>
        intro vals a W hS hL; have e11 : a.tmps.getD 11 undef = .agg #[.int .i64 m, .int .i64 (s : Nat)] := hL.1; clear hL; go_simp; refine (HX.out W).mono ?_; rintro e W' ⟨rfl, hb⟩; exact ⟨_, rfl, ⟨fun d hd => by injection hd with hd; subst hd; rfl, fun h => by cases h⟩, hS.call hb, trivial⟩
    · as_aux_lemma =>
        intro vals a W hS hL; have e3 : a.tmps.getD 3 undef = .pointer (some ⟨(w.heap.size + 1), 0, none⟩) := hL.1; clear hL; have kb : Bk W (w.heap.size + 1) 30 #[.int .i64 n, .int .i64 (t : Nat)] := hS.bk (.tail _ (.head _)) (.tail _ (.head _)); have f0 := kb.cell 0; have f1 := kb.cell 1; clear kb; go_simp; exact ⟨⟨fun d hd => by injection hd with hd; subst hd; rfl, fun h => by cases h⟩, hS, trivial⟩
    · as_aux_lemma =>
        intro vals a W hS hL; have e13 : a.tmps.getD 13 undef = .agg #[.int .i64 n, .int .i64 (t : Nat)] := hL.1; clear hL; go_simp; refine (HY.out W).mono ?_; rintro e W' ⟨rfl, hb⟩; exact ⟨_, rfl, ⟨fun d hd => by injection hd with hd; subst hd; rfl, fun h => by cases h⟩, hS.call hb, trivial⟩
    · as_aux_lemma =>
        intro vals a W hS hL; have e12 : a.tmps.getD 12 undef = wd c M := hL.1; have e14 : a.tmps.getD 14 undef = wd d N := hL.2.1; clear hL; go_simp; refine (HA.out W).mono ?_; rintro e W' ⟨rfl, hb⟩; exact ⟨_, rfl, ⟨fun d hd => by injection hd with hd; subst hd; rfl, fun h => by cases h⟩, hS.call hb, trivial⟩
    · as_aux_lemma =>
        intro vals a W hS hL; have e15 : a.tmps.getD 15 undef = wd (adb c d M N) (adn c d M N) := hL.1; clear hL; go_simp; refine (HT.out W).mono ?_; rintro e W' ⟨rfl, hb⟩; exact ⟨_, rfl, ⟨fun d hd => by injection hd with hd; subst hd; rfl, fun h => by cases h⟩, hS.call hb, trivial⟩
    · as_aux_lemma =>
        intro vals a W hS hL; have e16 : a.tmps.getD 16 undef = .tuple #[.agg #[.int .i64 ((tlb (adb c d M N) (adn c d M N) 9)).m, .int .i64 (((tlb (adb c d M N) (adn c d M N) 9)).s : Nat)], .int .i64 (((tlb (adb c d M N) (adn c d M N) 9)).e : Nat)] := hL.1; clear hL; go_simp; exact ⟨⟨fun d hd => by injection hd with hd; subst hd; rfl, fun h => by cases h⟩, hS, trivial⟩
    · as_aux_lemma =>
        intro vals a W hS hL; have e16 : a.tmps.getD 16 undef = .tuple #[.agg #[.int .i64 ((tlb (adb c d M N) (adn c d M N) 9)).m, .int .i64 (((tlb (adb c d M N) (adn c d M N) 9)).s : Nat)], .int .i64 (((tlb (adb c d M N) (adn c d M N) 9)).e : Nat)] := hL.1; clear hL; go_simp; exact ⟨⟨fun d hd => by injection hd with hd; subst hd; rfl, fun h => by cases h⟩, hS, trivial⟩
    · as_aux_lemma =>
        intro a W vals hv hS hL hp; have e4 : a.tmps.getD 4 undef = .pointer (some ⟨(w.heap.size + 1 + 1), 0, none⟩) := hL.1; have e17 : a.tmps.getD 17 undef = .agg #[.int .i64 ((tlb (adb c d M N) (adn c d M N) 9)).m, .int .i64 (((tlb (adb c d M N) (adn c d M N) 9)).s : Nat)] := hL.2.1; clear hL
        match vals, hv, hS with
        | [], _, hS =>
          have hB : SB w 3 ([((w.heap.size + 1 + 1), 30, #[.int .i64 0, .int .i64 0]), ((w.heap.size + 1), 30, #[.int .i64 n, .int .i64 (t : Nat)]), (w.heap.size, 30, #[.int .i64 m, .int .i64 (s : Nat)])] : List (Nat × TypeId × Array Value)) W := hS; have kz := hB.bk _ (List.mem_cons_self ..); have hlt : ∀ x ∈ ([((w.heap.size + 1), 30, #[.int .i64 n, .int .i64 (t : Nat)]), (w.heap.size, 30, #[.int .i64 m, .int .i64 (s : Nat)])] : List (Nat × TypeId × Array Value)), x.1 ≠ (w.heap.size + 1 + 1) := by simp <;> omega
          have z0 := kz.frozen 0; have q0 := kz.cell 0; have z1 := kz.frozen 1; have q1 := kz.cell 1; have hF := hB.set2 (by omega) hlt (.int .i64 ((tlb (adb c d M N) (adn c d M N) 9)).m : Value) (.int .i64 (((tlb (adb c d M N) (adn c d M N) 9)).s : Nat) : Value); rw [Array.getD_eq_getD_getElem?] at e17; clear hS kz hB; go_simp; exact ⟨hF, trivial, trivial⟩
    · as_aux_lemma =>
        intro vals a W hS hL; have e18 : a.tmps.getD 18 undef = .int .i64 (((tlb (adb c d M N) (adn c d M N) 9)).e : Nat) := hL.1; clear hL; go_simp; exact ⟨⟨fun d hd => by injection hd with hd; subst hd; rfl, fun h => by cases h⟩, hS, trivial⟩
  · intro a W' vals hd hsz hT hF hv _ hS
    obtain ⟨u, rfl⟩ : ∃ u, vals = [u] := by
      match vals, hv with
      | [u], _ => exact ⟨u, rfl⟩
    have hB : SB w 3 ([((w.heap.size + 1 + 1), 30, #[.int .i64 ((tlb (adb c d M N) (adn c d M N) 9)).m, .int .i64 (((tlb (adb c d M N) (adn c d M N) 9)).s : Nat)]), ((w.heap.size + 1), 30, #[.int .i64 n, .int .i64 (t : Nat)]), (w.heap.size, 30, #[.int .i64 m, .int .i64 (s : Nat)])] : List (Nat × TypeId × Array Value)) W' := hS; have kz := hB.bk _ (List.mem_cons_self ..); have r0 := kz.cell 0; have r1 := kz.cell 1; clear kz hS; have e4 : a.tmps.getD 4 undef = .pointer (some ⟨(w.heap.size + 1 + 1), 0, none⟩) := hT 4 (by simp); have e5 : a.tmps.getD 5 undef = .int .i64 (((tlb (adb c d M N) (adn c d M N) 9)).e : Nat) := hT 5 (by simp); clear hT hF; go_wp2; refine bodyPost_ret (v := dv (tlb (adb c d M N) (adn c d M N) 9)) ?_ hd ⟨by rw [HV.out], hB.bel⟩; rw [dv_parts]; rw [Array.getD_eq_getD_getElem?] at e4 e5; simp [results, Tryz.results105, go_sem, e4, e5, r0, r1]
set_option maxRecDepth 100000 in
set_option maxHeartbeats 2000000 in
theorem dsub_any {w : World} {m n : Int} {s t : Nat} (hx : Gd m s) (hy : Gd n t) :
    Calls Tryz.prog 34 #[.agg #[.int .i64 m, .int .i64 (s : Nat)], .agg #[.int .i64 n, .int .i64 (t : Nat)]] w fun e w' => e = .returned (dv (subD m s n t)) ∧ Below w.heap.size w w' := by
  have HK := Lib.hid (fun W : World => taken_any (w := W) hx hy); have HX := Lib.hid (fun W : World => full_any (w := W) hx); have HY := Lib.hid (fun W : World => full_any (w := W) hy); have f1 := full_lt hx; have f2 := full_lt hy
  have HV := Lib.hid (show subD m s n t = tlb (adb (decide (m < 0)) (!decide (n < 0)) (m.natAbs * 10 ^ (9 - s)) (n.natAbs * 10 ^ (9 - t))) (adn (decide (m < 0)) (!decide (n < 0)) (m.natAbs * 10 ^ (9 - s)) (n.natAbs * 10 ^ (9 - t))) 9 by
    rw [tlb_eq, ad_sgn, sgn_not, val_sgn, val_sgn]; unfold subD; rw [Int.sub_eq_add_neg])
  generalize decide (m < 0) = c at *; generalize decide (n < 0) = d at *; generalize m.natAbs * 10 ^ (9 - s) = M at *; generalize n.natAbs * 10 ^ (9 - t) = N at *; have hle := adn_le c (!d) M N; have HA := Lib.hid (fun W : World => add_any (w := W) (a := c) (b := !d) (m := M) (n := N) (by omega)); have HT := Lib.hid (fun W : World => tell_any (w := W) (b := adb c (!d) M N) (n := adn c (!d) M N) (s := 9) (by omega) (by omega)); have HN := Lib.hid (fun W : World => negate_any (w := W) (b := d) (n := N)); clear f1 f2 hle hx hy; have H0 : Hid (SB w 3 ([((w.heap.size + 1 + 1), 30, #[.int .i64 0, .int .i64 0]), ((w.heap.size + 1), 30, #[.int .i64 n, .int .i64 (t : Nat)]), (w.heap.size, 30, #[.int .i64 m, .int .i64 (s : Nat)])] : List (Nat × TypeId × Array Value)) (((w.alloc (.cells #[.int .i64 m, .int .i64 (s : Nat)] 30)).alloc (.cells #[.int .i64 n, .int .i64 (t : Nat)] 30)).alloc (.cells #[.int .i64 0, .int .i64 0] 30))) := Lib.hid (((sb1 w 30 _).push (by simp) 30 _).push (by simp) 30 _); go_enter Tryz.func34, Tryz.ntmps34
  go_wp2_with fail
  refine (HK.out _).mono ?_; rintro e w1 ⟨rfl, hb⟩; have HSB := Lib.hid (H0.out.call hb); clear H0 hb; go_wp2
  refine wp_region_phases (S := (S1 w 3 ([((w.heap.size + 1 + 1), 30, #[.int .i64 0, .int .i64 0]), ((w.heap.size + 1), 30, #[.int .i64 n, .int .i64 (t : Nat)]), (w.heap.size, 30, #[.int .i64 m, .int .i64 (s : Nat)])] : List (Nat × TypeId × Array Value)) ([((w.heap.size + 1 + 1), 30, #[.int .i64 ((tlb (adb c (!d) M N) (adn c (!d) M N) 9)).m, .int .i64 (((tlb (adb c (!d) M N) (adn c (!d) M N) 9)).s : Nat)]), ((w.heap.size + 1), 30, #[.int .i64 n, .int .i64 (t : Nat)]), (w.heap.size, 30, #[.int .i64 m, .int .i64 (s : Nat)])] : List (Nat × TypeId × Array Value)))) (E := (fun _ _ => True)) [9] [(2, Is (.pointer (some ⟨w.heap.size, 0, none⟩))), (3, Is (.pointer (some ⟨(w.heap.size + 1), 0, none⟩))), (4, Is (.pointer (some ⟨(w.heap.size + 1 + 1), 0, none⟩)))] [(11, Is (.agg #[.int .i64 m, .int .i64 (s : Nat)])), (12, Is (wd c M)), (13, Is (.agg #[.int .i64 n, .int .i64 (t : Nat)])), (14, Is (wd d N)), (15, Is (wd (!d) N)), (16, Is (wd (adb c (!d) M N) (adn c (!d) M N))), (17, Is (.tuple #[.agg #[.int .i64 ((tlb (adb c (!d) M N) (adn c (!d) M N) 9)).m, .int .i64 (((tlb (adb c (!d) M N) (adn c (!d) M N) 9)).s : Nat)], .int .i64 (((tlb (adb c (!d) M N) (adn c (!d) M N) 9)).e : Nat)])), (18, Is (.agg #[.int .i64 ((tlb (adb c (!d) M N) (adn c (!d) M N) 9)).m, .int .i64 (((tlb (adb c (!d) M N) (adn c (!d) M N) 9)).s : Nat)])), (19, Is (.int .i64 (((tlb (adb c (!d) M N) (adn c (!d) M N) 9)).e : Nat))), (5, Is (.int .i64 (((tlb (adb c (!d) M N) (adn c (!d) M N) 9)).e : Nat)))]
    [.op [2] none, .op [11] none, .op [3] none, .op [13] none, .op [14] none, .op [12, 15] none, .op [16] none, .op [17] none, .op [17] none, .phase 0 [4, 18] [], .op [19] none] (by as_aux_lemma => kernel_rfl) ?_ ?_ ?_ ?_ ?_ ⟨stable_is _ _, stable_is _ _, stable_is _ _, stable_is _ _, stable_is _ _, stable_is _ _, stable_is _ _, stable_is _ _, stable_is _ _, stable_is _ _, stable_is _ _, stable_is _ _, stable_is _ _, trivial⟩ ?_ (HSB.out.drew) ?_ ?_
  · as_aux_lemma => kernel_rfl
  · as_aux_lemma => kernel_rfl
  · as_aux_lemma => kernel_rfl
  · as_aux_lemma => kernel_rfl
  · as_aux_lemma => kernel_rfl
  · exact ⟨rfl, rfl, rfl, trivial⟩
  · refine ⟨?_, ?_, ?_, ?_, ?_, ?_, ?_, ?_, ?_, ?_, ?_, trivial⟩
    · as_aux_lemma =>
        intro vals a W hS hL; have e2 : a.tmps.getD 2 undef = .pointer (some ⟨w.heap.size, 0, none⟩) := hL.1; clear hL; have kb : Bk W w.heap.size 30 #[.int .i64 m, .int .i64 (s : Nat)] := hS.bk (.tail _ (.tail _ (.head _))) (.tail _ (.tail _ (.head _))); have f0 := kb.cell 0; have f1 := kb.cell 1; clear kb; go_simp; exact ⟨⟨fun d hd => by injection hd with hd; subst hd; rfl, fun h => by cases h⟩, hS, trivial⟩
    · as_aux_lemma =>
        intro vals a W hS hL; have e11 : a.tmps.getD 11 undef = .agg #[.int .i64 m, .int .i64 (s : Nat)] := hL.1; clear hL; go_simp; refine (HX.out W).mono ?_; rintro e W' ⟨rfl, hb⟩; exact ⟨_, rfl, ⟨fun d hd => by injection hd with hd; subst hd; rfl, fun h => by cases h⟩, hS.call hb, trivial⟩
    · as_aux_lemma =>
        intro vals a W hS hL; have e3 : a.tmps.getD 3 undef = .pointer (some ⟨(w.heap.size + 1), 0, none⟩) := hL.1; clear hL; have kb : Bk W (w.heap.size + 1) 30 #[.int .i64 n, .int .i64 (t : Nat)] := hS.bk (.tail _ (.head _)) (.tail _ (.head _)); have f0 := kb.cell 0; have f1 := kb.cell 1; clear kb; go_simp; exact ⟨⟨fun d hd => by injection hd with hd; subst hd; rfl, fun h => by cases h⟩, hS, trivial⟩
    · as_aux_lemma =>
        intro vals a W hS hL; have e13 : a.tmps.getD 13 undef = .agg #[.int .i64 n, .int .i64 (t : Nat)] := hL.1; clear hL; go_simp; refine (HY.out W).mono ?_; rintro e W' ⟨rfl, hb⟩; exact ⟨_, rfl, ⟨fun d hd => by injection hd with hd; subst hd; rfl, fun h => by cases h⟩, hS.call hb, trivial⟩
    · as_aux_lemma =>
        intro vals a W hS hL; have e14 : a.tmps.getD 14 undef = wd d N := hL.1; clear hL; go_simp; refine (HN.out W).mono ?_; rintro e W' ⟨rfl, hb⟩; exact ⟨_, rfl, ⟨fun d hd => by injection hd with hd; subst hd; rfl, fun h => by cases h⟩, hS.call hb, trivial⟩
    · as_aux_lemma =>
        intro vals a W hS hL; have e12 : a.tmps.getD 12 undef = wd c M := hL.1; have e15 : a.tmps.getD 15 undef = wd (!d) N := hL.2.1; clear hL; go_simp; refine (HA.out W).mono ?_; rintro e W' ⟨rfl, hb⟩; exact ⟨_, rfl, ⟨fun d hd => by injection hd with hd; subst hd; rfl, fun h => by cases h⟩, hS.call hb, trivial⟩
    · as_aux_lemma =>
        intro vals a W hS hL; have e16 : a.tmps.getD 16 undef = wd (adb c (!d) M N) (adn c (!d) M N) := hL.1; clear hL; go_simp; refine (HT.out W).mono ?_; rintro e W' ⟨rfl, hb⟩; exact ⟨_, rfl, ⟨fun d hd => by injection hd with hd; subst hd; rfl, fun h => by cases h⟩, hS.call hb, trivial⟩
    · as_aux_lemma =>
        intro vals a W hS hL; have e17 : a.tmps.getD 17 undef = .tuple #[.agg #[.int .i64 ((tlb (adb c (!d) M N) (adn c (!d) M N) 9)).m, .int .i64 (((tlb (adb c (!d) M N) (adn c (!d) M N) 9)).s : Nat)], .int .i64 (((tlb (adb c (!d) M N) (adn c (!d) M N) 9)).e : Nat)] := hL.1; clear hL; go_simp; exact ⟨⟨fun d hd => by injection hd with hd; subst hd; rfl, fun h => by cases h⟩, hS, trivial⟩
    · as_aux_lemma =>
        intro vals a W hS hL; have e17 : a.tmps.getD 17 undef = .tuple #[.agg #[.int .i64 ((tlb (adb c (!d) M N) (adn c (!d) M N) 9)).m, .int .i64 (((tlb (adb c (!d) M N) (adn c (!d) M N) 9)).s : Nat)], .int .i64 (((tlb (adb c (!d) M N) (adn c (!d) M N) 9)).e : Nat)] := hL.1; clear hL; go_simp; exact ⟨⟨fun d hd => by injection hd with hd; subst hd; rfl, fun h => by cases h⟩, hS, trivial⟩
    · as_aux_lemma =>
        intro a W vals hv hS hL hp; have e4 : a.tmps.getD 4 undef = .pointer (some ⟨(w.heap.size + 1 + 1), 0, none⟩) := hL.1; have e18 : a.tmps.getD 18 undef = .agg #[.int .i64 ((tlb (adb c (!d) M N) (adn c (!d) M N) 9)).m, .int .i64 (((tlb (adb c (!d) M N) (adn c (!d) M N) 9)).s : Nat)] := hL.2.1; clear hL
        match vals, hv, hS with
        | [], _, hS =>
          have hB : SB w 3 ([((w.heap.size + 1 + 1), 30, #[.int .i64 0, .int .i64 0]), ((w.heap.size + 1), 30, #[.int .i64 n, .int .i64 (t : Nat)]), (w.heap.size, 30, #[.int .i64 m, .int .i64 (s : Nat)])] : List (Nat × TypeId × Array Value)) W := hS; have kz := hB.bk _ (List.mem_cons_self ..); have hlt : ∀ x ∈ ([((w.heap.size + 1), 30, #[.int .i64 n, .int .i64 (t : Nat)]), (w.heap.size, 30, #[.int .i64 m, .int .i64 (s : Nat)])] : List (Nat × TypeId × Array Value)), x.1 ≠ (w.heap.size + 1 + 1) := by simp <;> omega
          have z0 := kz.frozen 0; have q0 := kz.cell 0; have z1 := kz.frozen 1; have q1 := kz.cell 1; have hF := hB.set2 (by omega) hlt (.int .i64 ((tlb (adb c (!d) M N) (adn c (!d) M N) 9)).m : Value) (.int .i64 (((tlb (adb c (!d) M N) (adn c (!d) M N) 9)).s : Nat) : Value); rw [Array.getD_eq_getD_getElem?] at e18; clear hS kz hB; go_simp; exact ⟨hF, trivial, trivial⟩
    · as_aux_lemma =>
        intro vals a W hS hL; have e19 : a.tmps.getD 19 undef = .int .i64 (((tlb (adb c (!d) M N) (adn c (!d) M N) 9)).e : Nat) := hL.1; clear hL; go_simp; exact ⟨⟨fun d hd => by injection hd with hd; subst hd; rfl, fun h => by cases h⟩, hS, trivial⟩
  · intro a W' vals hd hsz hT hF hv _ hS
    obtain ⟨u, rfl⟩ : ∃ u, vals = [u] := by
      match vals, hv with
      | [u], _ => exact ⟨u, rfl⟩
    have hB : SB w 3 ([((w.heap.size + 1 + 1), 30, #[.int .i64 ((tlb (adb c (!d) M N) (adn c (!d) M N) 9)).m, .int .i64 (((tlb (adb c (!d) M N) (adn c (!d) M N) 9)).s : Nat)]), ((w.heap.size + 1), 30, #[.int .i64 n, .int .i64 (t : Nat)]), (w.heap.size, 30, #[.int .i64 m, .int .i64 (s : Nat)])] : List (Nat × TypeId × Array Value)) W' := hS; have kz := hB.bk _ (List.mem_cons_self ..); have r0 := kz.cell 0; have r1 := kz.cell 1; clear kz hS; have e4 : a.tmps.getD 4 undef = .pointer (some ⟨(w.heap.size + 1 + 1), 0, none⟩) := hT 4 (by simp); have e5 : a.tmps.getD 5 undef = .int .i64 (((tlb (adb c (!d) M N) (adn c (!d) M N) 9)).e : Nat) := hT 5 (by simp); clear hT hF; go_wp2; refine bodyPost_ret (v := dv (tlb (adb c (!d) M N) (adn c (!d) M N) 9)) ?_ hd ⟨by rw [HV.out], hB.bel⟩; rw [dv_parts]; rw [Array.getD_eq_getD_getElem?] at e4 e5; simp [results, Tryz.results34, go_sem, e4, e5, r0, r1]
set_option maxRecDepth 100000 in
set_option maxHeartbeats 2000000 in
theorem compare_any {w : World} {m n : Int} {s t : Nat} (hx : Gd m s) (hy : Gd n t) :
    Calls Tryz.prog 33 #[.agg #[.int .i64 m, .int .i64 (s : Nat)], .agg #[.int .i64 n, .int .i64 (t : Nat)]] w fun e w' => e = .returned (.int .i64 (cmp (val m s) (val n t))) ∧ Below w.heap.size w w' := by
  have HK := Lib.hid (fun W : World => taken_any (w := W) hx hy); have HX := Lib.hid (fun W : World => full_any (w := W) hx); have HY := Lib.hid (fun W : World => full_any (w := W) hy); have f1 := full_lt hx; have f2 := full_lt hy
  have HV := Lib.hid (show cmp (val m s) (val n t) = cmp (sgn (adb (decide (m < 0)) (!decide (n < 0)) (m.natAbs * 10 ^ (9 - s)) (n.natAbs * 10 ^ (9 - t))) (adn (decide (m < 0)) (!decide (n < 0)) (m.natAbs * 10 ^ (9 - s)) (n.natAbs * 10 ^ (9 - t)))) 0 by
    rw [ad_sgn, sgn_not, val_sgn, val_sgn, ← Int.sub_eq_add_neg, cmp_sub])
  generalize decide (m < 0) = c at *; generalize decide (n < 0) = d at *; generalize m.natAbs * 10 ^ (9 - s) = M at *; generalize n.natAbs * 10 ^ (9 - t) = N at *; have HN := Lib.hid (fun W : World => negate_any (w := W) (b := d) (n := N)); have HA := Lib.hid (fun W : World => add_any (w := W) (a := c) (b := !d) (m := M) (n := N) (by omega)); have HT := Lib.hid (fun W : World => sign_any (w := W) (b := adb c (!d) M N) (n := adn c (!d) M N)); clear f1 f2 hx hy; have H0 : Hid (SB w 2 ([((w.heap.size + 1), 30, #[.int .i64 n, .int .i64 (t : Nat)]), (w.heap.size, 30, #[.int .i64 m, .int .i64 (s : Nat)])] : List (Nat × TypeId × Array Value)) ((w.alloc (.cells #[.int .i64 m, .int .i64 (s : Nat)] 30)).alloc (.cells #[.int .i64 n, .int .i64 (t : Nat)] 30))) := Lib.hid ((sb1 w 30 _).push (by simp) 30 _); go_enter Tryz.func33, Tryz.ntmps33
  go_wp2_with fail
  refine (HK.out _).mono ?_; rintro e w1 ⟨rfl, hb⟩; have HSB := Lib.hid (H0.out.call hb); clear H0 hb; go_wp2
  refine wp_region_phases (S := (S1 w 2 ([((w.heap.size + 1), 30, #[.int .i64 n, .int .i64 (t : Nat)]), (w.heap.size, 30, #[.int .i64 m, .int .i64 (s : Nat)])] : List (Nat × TypeId × Array Value)) ([((w.heap.size + 1), 30, #[.int .i64 n, .int .i64 (t : Nat)]), (w.heap.size, 30, #[.int .i64 m, .int .i64 (s : Nat)])] : List (Nat × TypeId × Array Value)))) (E := (fun _ _ => True)) [] [(2, Is (.pointer (some ⟨w.heap.size, 0, none⟩))), (3, Is (.pointer (some ⟨(w.heap.size + 1), 0, none⟩)))] [(9, Is (.agg #[.int .i64 m, .int .i64 (s : Nat)])), (10, Is (wd c M)), (11, Is (.agg #[.int .i64 n, .int .i64 (t : Nat)])), (12, Is (wd d N)), (13, Is (wd (!d) N)), (14, Is (wd (adb c (!d) M N) (adn c (!d) M N))), (15, Is (.int .i64 (cmp (sgn (adb c (!d) M N) (adn c (!d) M N)) 0))), (4, Is (.int .i64 (cmp (sgn (adb c (!d) M N) (adn c (!d) M N)) 0)))]
    [.op [2] none, .op [9] none, .op [3] none, .op [11] none, .op [12] none, .op [10, 13] none, .op [14] none, .op [15] none] (by as_aux_lemma => kernel_rfl) ?_ ?_ ?_ ?_ ?_ ⟨stable_is _ _, stable_is _ _, stable_is _ _, stable_is _ _, stable_is _ _, stable_is _ _, stable_is _ _, stable_is _ _, stable_is _ _, stable_is _ _, trivial⟩ ?_ (HSB.out.drew) ?_ ?_
  · as_aux_lemma => kernel_rfl
  · as_aux_lemma => kernel_rfl
  · as_aux_lemma => kernel_rfl
  · as_aux_lemma => kernel_rfl
  · as_aux_lemma => kernel_rfl
  · exact ⟨rfl, rfl, trivial⟩
  · refine ⟨?_, ?_, ?_, ?_, ?_, ?_, ?_, ?_, trivial⟩
    · as_aux_lemma =>
        intro vals a W hS hL; have e2 : a.tmps.getD 2 undef = .pointer (some ⟨w.heap.size, 0, none⟩) := hL.1; clear hL; have kb : Bk W w.heap.size 30 #[.int .i64 m, .int .i64 (s : Nat)] := hS.bk (.tail _ (.head _)) (.tail _ (.head _)); have f0 := kb.cell 0; have f1 := kb.cell 1; clear kb; go_simp; exact ⟨⟨fun d hd => by injection hd with hd; subst hd; rfl, fun h => by cases h⟩, hS, trivial⟩
    · as_aux_lemma =>
        intro vals a W hS hL; have e9 : a.tmps.getD 9 undef = .agg #[.int .i64 m, .int .i64 (s : Nat)] := hL.1; clear hL; go_simp; refine (HX.out W).mono ?_; rintro e W' ⟨rfl, hb⟩; exact ⟨_, rfl, ⟨fun d hd => by injection hd with hd; subst hd; rfl, fun h => by cases h⟩, hS.call hb, trivial⟩
    · as_aux_lemma =>
        intro vals a W hS hL; have e3 : a.tmps.getD 3 undef = .pointer (some ⟨(w.heap.size + 1), 0, none⟩) := hL.1; clear hL; have kb : Bk W (w.heap.size + 1) 30 #[.int .i64 n, .int .i64 (t : Nat)] := hS.bk (.head _) (.head _); have f0 := kb.cell 0; have f1 := kb.cell 1; clear kb; go_simp; exact ⟨⟨fun d hd => by injection hd with hd; subst hd; rfl, fun h => by cases h⟩, hS, trivial⟩
    · as_aux_lemma =>
        intro vals a W hS hL; have e11 : a.tmps.getD 11 undef = .agg #[.int .i64 n, .int .i64 (t : Nat)] := hL.1; clear hL; go_simp; refine (HY.out W).mono ?_; rintro e W' ⟨rfl, hb⟩; exact ⟨_, rfl, ⟨fun d hd => by injection hd with hd; subst hd; rfl, fun h => by cases h⟩, hS.call hb, trivial⟩
    · as_aux_lemma =>
        intro vals a W hS hL; have e12 : a.tmps.getD 12 undef = wd d N := hL.1; clear hL; go_simp; refine (HN.out W).mono ?_; rintro e W' ⟨rfl, hb⟩; exact ⟨_, rfl, ⟨fun d hd => by injection hd with hd; subst hd; rfl, fun h => by cases h⟩, hS.call hb, trivial⟩
    · as_aux_lemma =>
        intro vals a W hS hL; have e10 : a.tmps.getD 10 undef = wd c M := hL.1; have e13 : a.tmps.getD 13 undef = wd (!d) N := hL.2.1; clear hL; go_simp; refine (HA.out W).mono ?_; rintro e W' ⟨rfl, hb⟩; exact ⟨_, rfl, ⟨fun d hd => by injection hd with hd; subst hd; rfl, fun h => by cases h⟩, hS.call hb, trivial⟩
    · as_aux_lemma =>
        intro vals a W hS hL; have e14 : a.tmps.getD 14 undef = wd (adb c (!d) M N) (adn c (!d) M N) := hL.1; clear hL; go_simp; refine (HT.out W).mono ?_; rintro e W' ⟨rfl, hb⟩; exact ⟨_, rfl, ⟨fun d hd => by injection hd with hd; subst hd; rfl, fun h => by cases h⟩, hS.call hb, trivial⟩
    · as_aux_lemma =>
        intro vals a W hS hL; have e15 : a.tmps.getD 15 undef = .int .i64 (cmp (sgn (adb c (!d) M N) (adn c (!d) M N)) 0) := hL.1; clear hL; go_simp; exact ⟨⟨fun d hd => by injection hd with hd; subst hd; rfl, fun h => by cases h⟩, hS, trivial⟩
  · intro a W' vals hd hsz hT hF hv _ hS; obtain rfl : vals = [] := List.eq_nil_of_length_eq_zero hv; have hB : SB w 2 ([((w.heap.size + 1), 30, #[.int .i64 n, .int .i64 (t : Nat)]), (w.heap.size, 30, #[.int .i64 m, .int .i64 (s : Nat)])] : List (Nat × TypeId × Array Value)) W' := hS; clear hS; have e4 : a.tmps.getD 4 undef = .int .i64 (cmp (sgn (adb c (!d) M N) (adn c (!d) M N)) 0) := hT 4 (by simp); clear hT hF; go_wp2; refine bodyPost_ret (v := .int .i64 (cmp (sgn (adb c (!d) M N) (adn c (!d) M N)) 0)) ?_ hd ⟨by rw [HV.out], hB.bel⟩; rw [Array.getD_eq_getD_getElem?] at e4; simp [results, Tryz.results33, go_sem, e4]
set_option maxRecDepth 100000 in
set_option maxHeartbeats 2000000 in
theorem norm_any {w : World} {m : Int} {s : Nat} (h0 : -9223372036854775808 ≤ m) (h1 : m ≤ 9223372036854775807) (hs : s ≤ 9) :
    Calls Tryz.prog 31 #[.agg #[.int .i64 m, .int .i64 (s : Nat)]] w fun e w' => e = .returned (.agg #[.int .i64 (tl m s).m, .int .i64 ((tl m s).s : Nat)]) ∧ Below w.heap.size w w' := by
  have HW := Lib.hid (fun W : World => widen_any (w := W) h0 h1); have HT := Lib.hid (fun W : World => tell_any (w := W) (b := decide (m < 0)) (n := m.natAbs) (s := s) (by omega) (by omega)); have HV := Lib.hid (show tl m s = tlb (decide (m < 0)) m.natAbs s from rfl); rw [HV.out]; clear h0 h1 hs HV; generalize decide (m < 0) = c at *; generalize m.natAbs = M at *; have HSB : Hid (SB w 2 ([((w.heap.size + 1), 30, #[.int .i64 0, .int .i64 0]), (w.heap.size, 30, #[.int .i64 m, .int .i64 (s : Nat)])] : List (Nat × TypeId × Array Value)) ((w.alloc (.cells #[.int .i64 m, .int .i64 (s : Nat)] 30)).alloc (.cells #[.int .i64 0, .int .i64 0] 30))) := Lib.hid ((sb1 w 30 _).push (by simp) 30 _); go_enter Tryz.func31, Tryz.ntmps31; go_wp2
  refine wp_region_phases (S := (S2 w 2 ([((w.heap.size + 1), 30, #[.int .i64 0, .int .i64 0]), (w.heap.size, 30, #[.int .i64 m, .int .i64 (s : Nat)])] : List (Nat × TypeId × Array Value)) 30 #[.int .i64 0, .int .i64 0] #[.int .i64 ((tlb c M s)).m, .int .i64 (((tlb c M s)).s : Nat)])) (E := (fun _ _ => True)) [9, 10] [(1, Is (.pointer (some ⟨w.heap.size, 0, none⟩))), (2, Is (.pointer (some ⟨(w.heap.size + 1), 0, none⟩)))] [(6, Is (.pointer (some ⟨w.heap.size, 0, none⟩))), (7, Is (.int .i64 m)), (8, Is (wd c M)), (9, Is (.pointer (some ⟨w.heap.size, 1, none⟩))), (10, Is (.int .i64 (s : Nat))), (11, Is (.tuple #[.agg #[.int .i64 ((tlb c M s)).m, .int .i64 (((tlb c M s)).s : Nat)], .int .i64 (((tlb c M s)).e : Nat)])), (5, Is (.tuple #[.agg #[.int .i64 ((tlb c M s)).m, .int .i64 (((tlb c M s)).s : Nat)], .int .i64 (((tlb c M s)).e : Nat)])), (12, Is (.agg #[.int .i64 ((tlb c M s)).m, .int .i64 (((tlb c M s)).s : Nat)])), (13, Is (.int .i64 (((tlb c M s)).e : Nat))), (4, Is (.int .i64 (((tlb c M s)).e : Nat)))]
    [.op [1] none, .op [6] none, .op [7] none, .op [1] none, .op [9] none, .op [8, 10] none, .op [11] none, .op [5] none, .op [5] none, .phase 0 [] [], .phase 1 [12] [(0, 3)], .op [13] none] (by as_aux_lemma => kernel_rfl) ?_ ?_ ?_ ?_ ?_ ⟨stable_is _ _, stable_is _ _, stable_is _ _, stable_is _ _, stable_is _ _, stable_is _ _, stable_is _ _, stable_is _ _, stable_is _ _, stable_is _ _, stable_is _ _, stable_is _ _, trivial⟩ ?_ (HSB.out.drew) ?_ ?_
  · as_aux_lemma => kernel_rfl
  · as_aux_lemma => kernel_rfl
  · as_aux_lemma => kernel_rfl
  · as_aux_lemma => kernel_rfl
  · as_aux_lemma => kernel_rfl
  · exact ⟨rfl, rfl, trivial⟩
  · refine ⟨?_, ?_, ?_, ?_, ?_, ?_, ?_, ?_, ?_, ?_, ?_, ?_, trivial⟩
    · as_aux_lemma =>
        intro vals a W hS hL; have e1 : a.tmps.getD 1 undef = .pointer (some ⟨w.heap.size, 0, none⟩) := hL.1; clear hL; go_simp; exact ⟨⟨fun d hd => by injection hd with hd; subst hd; rfl, fun h => by cases h⟩, hS, trivial⟩
    · as_aux_lemma =>
        intro vals a W hS hL; have e6 : a.tmps.getD 6 undef = .pointer (some ⟨w.heap.size, 0, none⟩) := hL.1; clear hL; have kb : Bk W w.heap.size 30 #[.int .i64 m, .int .i64 (s : Nat)] := hS.bk (.tail _ (.head _)); have f0 := kb.cell 0; clear kb; go_simp; exact ⟨⟨fun d hd => by injection hd with hd; subst hd; rfl, fun h => by cases h⟩, hS, trivial⟩
    · as_aux_lemma =>
        intro vals a W hS hL; have e7 : a.tmps.getD 7 undef = .int .i64 m := hL.1; clear hL; go_simp; refine (HW.out W).mono ?_; rintro e W' ⟨rfl, hb⟩; exact ⟨_, rfl, ⟨fun d hd => by injection hd with hd; subst hd; rfl, fun h => by cases h⟩, hS.call hb, trivial⟩
    · as_aux_lemma =>
        intro vals a W hS hL; have e1 : a.tmps.getD 1 undef = .pointer (some ⟨w.heap.size, 0, none⟩) := hL.1; clear hL; go_simp; exact ⟨⟨fun d hd => by injection hd with hd; subst hd; rfl, fun h => by cases h⟩, hS, trivial⟩
    · as_aux_lemma =>
        intro vals a W hS hL; have e9 : a.tmps.getD 9 undef = .pointer (some ⟨w.heap.size, 1, none⟩) := hL.1; clear hL; have kb : Bk W w.heap.size 30 #[.int .i64 m, .int .i64 (s : Nat)] := hS.bk (.tail _ (.head _)); have f1 := kb.cell 1; clear kb; go_simp; exact ⟨⟨fun d hd => by injection hd with hd; subst hd; rfl, fun h => by cases h⟩, hS, trivial⟩
    · as_aux_lemma =>
        intro vals a W hS hL; have e8 : a.tmps.getD 8 undef = wd c M := hL.1; have e10 : a.tmps.getD 10 undef = .int .i64 (s : Nat) := hL.2.1; clear hL; go_simp; refine (HT.out W).mono ?_; rintro e W' ⟨rfl, hb⟩; exact ⟨_, rfl, ⟨fun d hd => by injection hd with hd; subst hd; rfl, fun h => by cases h⟩, hS.call hb, trivial⟩
    · as_aux_lemma =>
        intro vals a W hS hL; have e11 : a.tmps.getD 11 undef = .tuple #[.agg #[.int .i64 ((tlb c M s)).m, .int .i64 (((tlb c M s)).s : Nat)], .int .i64 (((tlb c M s)).e : Nat)] := hL.1; clear hL; go_simp; exact ⟨⟨fun d hd => by injection hd with hd; subst hd; rfl, fun h => by cases h⟩, hS, trivial⟩
    · as_aux_lemma =>
        intro vals a W hS hL; have e5 : a.tmps.getD 5 undef = .tuple #[.agg #[.int .i64 ((tlb c M s)).m, .int .i64 (((tlb c M s)).s : Nat)], .int .i64 (((tlb c M s)).e : Nat)] := hL.1; clear hL; go_simp; exact ⟨⟨fun d hd => by injection hd with hd; subst hd; rfl, fun h => by cases h⟩, hS, trivial⟩
    · as_aux_lemma =>
        intro vals a W hS hL; have e5 : a.tmps.getD 5 undef = .tuple #[.agg #[.int .i64 ((tlb c M s)).m, .int .i64 (((tlb c M s)).s : Nat)], .int .i64 (((tlb c M s)).e : Nat)] := hL.1; clear hL; go_simp; exact ⟨⟨fun d hd => by injection hd with hd; subst hd; rfl, fun h => by cases h⟩, hS, trivial⟩
    · as_aux_lemma =>
        intro a W vals hv hS hL hp; clear hL
        match vals, hv, hS with
        | [], _, hS =>
          have hB : SB w 2 ([((w.heap.size + 1), 30, #[.int .i64 0, .int .i64 0]), (w.heap.size, 30, #[.int .i64 m, .int .i64 (s : Nat)])] : List (Nat × TypeId × Array Value)) W := hS; have hF := hB.alloc 30 #[.int .i64 0, .int .i64 0]; have hz := hB.size; go_simp; exact ⟨⟨_, rfl, hz, hF⟩, trivial, trivial⟩
    · as_aux_lemma =>
        intro a W vals hv hS hL hp; have e12 : a.tmps.getD 12 undef = .agg #[.int .i64 ((tlb c M s)).m, .int .i64 (((tlb c M s)).s : Nat)] := hL.1; clear hL
        match vals, hv, hS with
        | [v], _, hS =>
          obtain ⟨g, rfl, hg, hB⟩ := hS; have e3 := hp.1 (by simp); simp only [List.getElem?_cons_zero, Option.some.injEq] at e3; have kz := hB.bk _ (List.mem_cons_self ..); have hlt : ∀ x ∈ ([((w.heap.size + 1), 30, #[.int .i64 0, .int .i64 0]), (w.heap.size, 30, #[.int .i64 m, .int .i64 (s : Nat)])] : List (Nat × TypeId × Array Value)), x.1 ≠ g := by simp <;> omega
          have z0 := kz.frozen 0; have q0 := kz.cell 0; have z1 := kz.frozen 1; have q1 := kz.cell 1; have hF := hB.set2 (by omega) hlt (.int .i64 ((tlb c M s)).m : Value) (.int .i64 (((tlb c M s)).s : Nat) : Value); rw [Array.getD_eq_getD_getElem?] at e12; rw [Array.getD_eq_getD_getElem?] at e3; have e3' := e3.symm; clear e3; clear hS kz hB; go_simp; exact ⟨⟨g, rfl, hg, hF⟩, trivial, trivial⟩
    · as_aux_lemma =>
        intro vals a W hS hL; have e13 : a.tmps.getD 13 undef = .int .i64 (((tlb c M s)).e : Nat) := hL.1; clear hL; go_simp; exact ⟨⟨fun d hd => by injection hd with hd; subst hd; rfl, fun h => by cases h⟩, hS, trivial⟩
  · intro a W' vals hd hsz hT hF hv hP hS
    obtain ⟨v0, v1, rfl⟩ : ∃ v0 v1, vals = [v0, v1] := by
      match vals, hv with
      | [x, y], _ => exact ⟨x, y, rfl⟩
    obtain ⟨g, hg0, hg, hB⟩ : ∃ g : Nat, v0 = .pointer (some ⟨g, 0, none⟩) ∧ w.heap.size + 2 ≤ g ∧ SB w 2 ([(g, 30, #[.int .i64 ((tlb c M s)).m, .int .i64 (((tlb c M s)).s : Nat)]), ((w.heap.size + 1), 30, #[.int .i64 0, .int .i64 0]), (w.heap.size, 30, #[.int .i64 m, .int .i64 (s : Nat)])] : List (Nat × TypeId × Array Value)) W' := hS; subst hg0
    have e3 : a.tmps.getD 3 undef = .pointer (some ⟨g, 0, none⟩) := by
      have := hP 0 9 _ 3 rfl (by simp) rfl rfl
      simpa using this.symm
    have e2 : a.tmps.getD 2 undef = .pointer (some ⟨(w.heap.size + 1), 0, none⟩) := hT 2 (by simp); clear hT hF hP; rw [act_lit 15 a hd hsz]; simp only [List.range, List.range.loop, List.map, e2, e3]; clear e2 e3; have k5 := hB.bk _ (List.mem_cons_self ..); have c50 := k5.cell 0; have c51 := k5.cell 1; clear k5; have k6 := hB.bk _ (.tail _ (.head _)); have c60 := k6.cell 0; have z60 := k6.frozen 0; have c61 := k6.cell 1; have z61 := k6.frozen 1; clear k6; have hbel := hB.bel; clear hB; go_wp2; refine bodyPost_ret (v := .agg #[.int .i64 (tlb c M s).m, .int .i64 ((tlb c M s).s : Nat)]) ?_ rfl ⟨rfl, (hbel.setCell (by simp) _).setCell (by simp) _⟩; simp [results, Tryz.results31, go_sem, c60, c61]
end Go.Proofs.YtngkolcpbgibcaaGreatDoor
