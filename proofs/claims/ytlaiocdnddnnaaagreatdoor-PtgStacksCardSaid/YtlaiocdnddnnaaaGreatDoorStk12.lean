/- PtgStacks, by their contracts. Condition: utf8.ValidString keeps its contract. -/
import Derived.Test.YtlaiocdnddnnaaaGreatDoorKn12
import Derived.Test.YtlaiocdnddnnaaaGreatDoorPs0
set_option linter.unusedVariables false
set_option linter.unusedSimpArgs false
namespace Go.Proofs.YtlaiocdnddnnaaaGreatDoor
open Go.RowKit
theorem runK_snoc (n : Nat) : ∀ (l : List Nat) (p : Nat) (ops : List Tr), runK (l ++ [n]) p ops = match runK l p ops with
    | (some a, x) => (some a, x)
    | (none, x) => if x.length < n then (some (p + (l.flatMap kB).length), x) else (none, pushT n x)
  | [], p, ops => by simp [runK]
  | m :: l, p, ops => by
    rw [List.cons_append, runK, runK]
    by_cases h : ops.length < m
    · rw [if_pos h, if_pos h]
    · rw [if_neg h, if_neg h, runK_snoc n l]; simp only [List.flatMap_cons, List.length_append, Nat.add_assoc]
theorem run_len : ∀ {l : List Nat} {p : Nat} {o x : List Tr}, runK l p o = (none, x) → x.length ≤ o.length + l.length
  | [], p, o, x, h => by
    simp only [runK, Prod.mk.injEq, true_and] at h; subst h; simp
  | n :: l, p, o, x, h => by
    rw [runK] at h
    split at h
    · cases h
    · have := run_len h; rw [push_len (by omega)] at this; simp only [List.length_cons]; omega
theorem run_dp : ∀ {l : List Nat} {p : Nat} {o x : List Tr}, runK l p o = (none, x) → dpL x ≤ dpL o + l.length
  | [], p, o, x, h => by
    simp only [runK, Prod.mk.injEq, true_and] at h; subst h; simp
  | n :: l, p, o, x, h => by
    rw [runK] at h
    split at h
    · cases h
    · have := run_dp h; rw [push_dp (by omega)] at this; have h2 : dpL o = max (dpL (o.take (o.length - n))) (dpL (o.drop (o.length - n))) := by rw [← dp_app, List.take_append_drop]
      simp only [List.length_cons]; omega
theorem rowI : ElemRow Tryz.prog 58 3 (.int .i64 0) 1 8 := by
  obtain ⟨i, hi, h0, h1, h2⟩ := info_parts (P := Tryz.prog) (e := 3) (z := .int .i64 0) (size := 1) (bytes := 8) (by kernel_rfl); exact ⟨Tryz.underlying58, ⟨i, hi, h0, h1, h2⟩, rfl, by omega⟩
def rows (l : List UInt8) : List Nat := l.map fun x => x.toNat % 3
def ints (ops : List Tr) : List Value := ops.map fun t => .int .i64 (dpT t : Nat)
def Rd5 (w : World) (ks : List Nat) (have_ lack deep most : Value) (W : World) : Prop :=
  (∃ ops, runK ks 0 [] = (none, ops) ∧ lack = .int .i64 (-1) ∧ have_ = .int .i64 ops.length ∧ most = .int .i64 (dpL ops : Nat) ∧ W.ownsRow w.heap.size 3 1 deep ops.length (ints ops)) ∨
  ∃ (a : Nat) (ops : List Tr), runK ks 0 [] = (some a, ops) ∧ lack = .int .i64 a
theorem kB_len : ∀ l : List Nat, (l.flatMap kB).length ≤ 2 * l.length
  | [] => Nat.le_refl _
  | n :: l => by
    have := kB_len l
    have h : (kB n).length ≤ 2 := by
      unfold kB
      split
      · simp
      · split <;> simp
    simp only [List.flatMap_cons, List.length_append, List.length_cons]; omega
theorem kB_ge : ∀ l : List Nat, l.length ≤ (l.flatMap kB).length
  | [] => Nat.le_refl _
  | n :: l => by
    have := kB_ge l
    have h : 1 ≤ (kB n).length := by
      unfold kB
      split
      · simp
      · split <;> simp
    simp only [List.flatMap_cons, List.length_append, List.length_cons]; omega
theorem run_cnt : ∀ {l : List Nat} {p : Nat} {o x : List Tr}, runK l p o = (none, x) → cntL x = cntL o + l.length
  | [], p, o, x, h => by
    simp only [runK, Prod.mk.injEq, true_and] at h; subst h; simp
  | n :: l, p, o, x, h => by
    rw [runK] at h
    split at h
    · cases h
    · have := run_cnt h; rw [push_cnt (by omega)] at this; simp only [List.length_cons]; omega
theorem run_nd : ∀ {l : List Nat} {p : Nat} {o x : List Tr}, (∀ n ∈ l, n < 3) → (∀ q ∈ ndL o, NdK q) → runK l p o = (none, x) → ∀ q ∈ ndL x, NdK q
  | [], p, o, x, _, ho, h => by
    simp only [runK, Prod.mk.injEq, true_and] at h; subst h; exact ho
  | n :: l, p, o, x, hl, ho, h => by
    rw [runK] at h
    split at h
    · cases h
    · exact run_nd (fun m hm => hl m (List.mem_cons_of_mem _ hm)) (push_nd (hl n (List.mem_cons_self ..)) (by omega) ho) h
theorem rows_lt (l : List UInt8) : ∀ n ∈ rows l, n < 3 := by
  intro n hn; obtain ⟨x, _, rfl⟩ := List.mem_map.1 hn; omega
theorem alT_rows {l : List UInt8} (h : l.length ≤ 60) : alT ((rows l).flatMap kB) = match runK (rows l) 0 [] with
    | (none, o) => (((rows l).flatMap kB).length, (rows l).length, o, 0)
    | (some a, o) => (a, (goT ((rows l).flatMap kB) (((rows l).flatMap kB).length + 1) 0 0 []).2.1, o, 10) := by
  have h1 := kB_len (rows l); have h2 : (rows l).length = l.length := by simp [rows]
  have h3 := kB_ge (rows l); unfold alT; rw [if_neg (by omega)]; have := go_k (rows l) [] (((rows l).flatMap kB).length + 1) 0 [] (rows_lt l) (by omega); simp only [List.nil_append, List.length_nil, Nat.zero_add] at this; exact this
theorem de_lack {l : List UInt8} (h : l.length ≤ 60) {a : Nat} {o : List Tr} (hr : runK (rows l) 0 [] = (some a, o)) : deE ((rows l).flatMap kB) = 10 ∧ deA ((rows l).flatMap kB) = (a : Nat) := by
  have e := alT_rows h; rw [hr] at e; simp only at e; unfold deE deA; rw [e]; simp
theorem de_many {l : List UInt8} (h : l.length ≤ 60) {o : List Tr} (hr : runK (rows l) 0 [] = (none, o)) (ho : o.length ≠ 1) : deE ((rows l).flatMap kB) = 10 ∧ deA ((rows l).flatMap kB) = (((rows l).flatMap kB).length : Nat) := by
  have e := alT_rows h; rw [hr] at e; simp only at e; unfold deE deA; rw [e]; simp [ho]
theorem de_one {l : List UInt8} (h : l.length ≤ 60) {t : Tr} (hr : runK (rows l) 0 [] = (none, [t])) : deE ((rows l).flatMap kB) = (if 16 < dpT t then 11 else 0) ∧ deA ((rows l).flatMap kB) = 0 ∧ (alT ((rows l).flatMap kB)).2.1 = l.length := by
  have e := alT_rows h; rw [hr] at e; simp only at e; have h2 : (rows l).length = l.length := by simp [rows]
  have hc := run_cnt hr; have hn := run_nd (rows_lt l) (by intro q hq; simp [ndL] at hq) hr; unfold deE deA; rw [e]; simp only [List.length_singleton, if_true, and_self]; refine ⟨?_, trivial, h2⟩
  show ckT oneE t = _
  by_cases hd : 16 < dpT t
  · rw [if_pos hd, ckT, if_pos hd]
  · rw [if_neg hd]; refine ckT_zero.2 ⟨by omega, ?_, fun q hq => ?_⟩
    · simp only [cntL] at hc; omega
    · obtain ⟨n, hn3, rfl⟩ := hn q (by simp only [ndL, List.append_nil]; exact hq)
      match n, hn3 with
      | 0, _ => exact (show oneE (kP 0) 0 = 0 by kernel_rfl)
      | 1, _ => exact (show oneE (kP 1) 1 = 0 by kernel_rfl)
      | 2, _ => exact (show oneE (kP 2) 2 = 0 by kernel_rfl)
theorem Rd5.keep {w W W' : World} {ks : List Nat} {a b d m : Value} {S : Nat → Prop} (h : Rd5 w ks a b d m W) (hK : Keep S W W') (hS : ∀ {n : Nat} {xs : List Value}, W.ownsRow w.heap.size 3 1 d n xs → ∀ i, d.ownBlock = some i → ¬ S i) : Rd5 w ks a b d m W' := by
  rcases h with ⟨ops, h1, h2, h3, h4, h5⟩ | h
  · exact .inl ⟨ops, h1, h2, h3, h4, hK.own h5 (hS h5)⟩
  · exact .inr h
set_option maxRecDepth 20000 in
set_option maxHeartbeats 4000000 in
theorem stacksLaw_any {w : World} {B n c : Nat} {A : Option Addr} {l : List UInt8} (HV : Val w) (h : Rd w B 1 A n (l.map bv)) (hB : B ≤ w.heap.size) : Calls Tryz.prog 4 #[.slice A n c] w fun e W => e = .returned (.bool true) ∧ Below w.heap.size w W := by
  have HVV := Lib.hid HV; have HR := Lib.hid h; have hl := h.blen; clear HV h
  by_cases hn : 60 < n
  · have hn' : (60 : Int) < (n : Int) := by omega
    have HB : Hid (BX w [] w) := Lib.hid (BX.start w); go_enter Tryz.func4, Tryz.ntmps4
    repeat' (first | go_values | go_skip | go_guarded | go_step | go_upon)
    refine (known12 HVV.out).mono ?_; rintro e W1 ⟨rfl, hb⟩; replace HB := Lib.hid (HB.out.call hb); clear hb; dsimp only
    repeat' (first | go_values | go_skip | go_guarded | go_step | go_upon)
    go_ret; exact ⟨rfl, HB.out.bel⟩
  · have hn' : ¬(60 : Int) < (n : Int) := by omega
    have HB : Hid (BX w [] w) := Lib.hid (BX.start w); go_enter Tryz.func4, Tryz.ntmps4
    repeat' (first | go_values | go_skip | go_guarded | go_step | go_upon)
    refine (known12 HVV.out).mono ?_; rintro e W1 ⟨rfl, hb⟩; replace HB := Lib.hid (HB.out.call hb); clear hb; dsimp only
    repeat' (first | ((with_reducible show Oper.wp _ _ _ _ _ _); with_reducible refine stop_bsu rfl ?_) | go_values | go_skip | go_guarded | go_step | go_upon)
    refine Lib.hid ?_; refine bs_g HB [] (e := 3) (n := 0) (by kernel_rfl) ?_; clear HB; intro g0 W2 HB; go_simp
    repeat' (first | go_values | go_skip | go_guarded | go_step | go_upon)
    have HG0 := Lib.hid (HB.out.get (i := 0) rfl); have HL0 : Hid (w.heap.size ≤ g0) := Lib.hid (HB.out.lo _ (List.mem_cons_self ..)); replace HB := Lib.hid (HB.out.some_ (List.sublist_cons_self ..))
    go_loopw [3, 4, 5, 6, 7, 8] (fun b hv lk dp ms i wr => ∃ j : Nat, i = .int .i64 j ∧ j ≤ l.length ∧ Hid (wr.ownsRow w.heap.size 5 1 b (((rows l).take j).flatMap kB).length ((((rows l).take j).flatMap kB).map bv)) ∧ Hid (Below w.heap.size w wr) ∧ Hid (Rd5 w ((rows l).take j) hv lk dp ms wr)) (fun _ _ _ _ _ i _ => l.length - (intOf i).toNat)
    case atStart => exact ⟨0, rfl, Nat.zero_le _, Lib.hid (World.ownsRow_nil _ _ _ _), Lib.hid HB.out.bel, Lib.hid (.inl ⟨[], rfl, rfl, rfl, rfl, bk_own (n := 0) (k := 1) HG0.out HL0.out rfl (by decide)⟩)⟩
    case round =>
      clear HB HG0 HL0; obtain ⟨j, rfl, hj, HO, HB, HD⟩ := hrel; obtain ⟨A3, c3, e3, -, -, -⟩ := own_form HO.out; subst e3; obtain ⟨m3, hm3⟩ : ∃ m3, m3 = (((rows l).take j).flatMap kB).length := ⟨_, rfl⟩
      have HM3 := Lib.hid hm3; rw [← hm3]; clear hm3
      by_cases hjl : j < l.length
      · have hjl' : (j : Int) < (n : Int) := by omega
        have hj0 : (0 : Int) ≤ (j : Int) := by omega
        obtain ⟨aa, rfl, hab, hcell⟩ := HR.out.at_ (by omega); obtain ⟨x, hx⟩ : ∃ x, l[j]? = some x := ⟨_, List.getElem?_eq_getElem hjl⟩
        have hc : wr.cell? (aa.add j) = some (.int .u8 (x.toNat : Nat)) := (HB.out.cell (by rw [add_block]; omega)).trans (hcell j _ (by rw [List.getElem?_map, hx]; rfl)); have HX := Lib.hid hx; clear hcell hx
        have hm60 : m3 ≤ 1000 := by
          have h1 := kB_len ((rows l).take j); have h2 : ((rows l).take j).length ≤ 60 := by simp [rows]; omega
          have := HM3.out; omega
        have htk : (rows l).take (j + 1) = (rows l).take j ++ [x.toNat % 3] := by
          rw [List.take_add_one, show (rows l)[j]? = some (x.toNat % 3) by simp [rows, HX.out]]; rfl
        have hq : x.toNat % 3 = 0 ∨ x.toNat % 3 = 1 ∨ x.toNat % 3 = 2 := by omega
        rcases hq with hq | hq | hq
        · have hqi : (x.toNat : Int) % 3 = 0 := by omega
          repeat' (first | ((with_reducible show Oper.wp _ _ _ _ _ _); with_reducible refine stop_bsu rfl ?_) | go_values | go_skip | go_guarded | go_step | go_upon)
          refine Lib.hid ?_; refine wp_v (v := .slice (some ⟨wr.heap.size, 0, none⟩) 2 2) (W' := wr.alloc (.cells ([.int .u8 29, .int .u8 1] : List Value).toArray 5)) (by kernel_rfl) ?_; have hbA := bel0 wr (.cells ([.int .u8 29, .int .u8 1] : List Value).toArray 5); have hkA := Bk.new wr 5 ([.int .u8 29, .int .u8 1] : List Value).toArray; have hwz : w.heap.size ≤ wr.heap.size := HB.out.size; generalize wr.alloc (.cells ([.int .u8 29, .int .u8 1] : List Value).toArray 5) = WA at *; have hoA := own1_below HO.out hbA; have hDA := HD.out.keep (Keep.of_below (S := fun i => wr.heap.size ≤ i) hbA fun i _ h => h) fun ho i hi h => by have := (ho.lt i hi).2; omega
          have hBA := HB.out.trans (hbA.mono hwz); generalize wr.heap.size = gA at *; clear hbA; go_simp
          repeat' (first | ((with_reducible show Oper.wp _ _ _ _ _ _); refine stop_ap (s := .tmp 39) (x := .tmp 40) (t := 35) rfl ?_) | go_values | go_skip | go_guarded | go_step | go_upon)
          refine Lib.hid ?_; refine wp_app (n := m3) (m := 2) bytesRow (.tmp 39) (.tmp 40) rfl rfl rfl (show WA.ownsRow _ _ _ _ m3 _ by rw [HM3.out]; exact hoA) (bk_rd (k := 1) (n := 2) hkA rfl) (by decide) (by have := hm60; unfold maxLen; omega) (by have := hm60; omega) hBA.size fun bb W4 ho4 hg4 hb4 => ?_; have hD4 := hDA.keep (Keep.of_grew hg4 (S := fun i => some i = (Value.slice A3 m3 c3).ownBlock) fun i e => e) fun ho i hi e => own_own_ne (by rw [HM3.out]; exact hoA) ho (by decide) i e.symm hi; have hB4 := hBA.trans hb4; obtain ⟨A4, c4, e4, -, -, -⟩ := own_form ho4; subst e4
          have hO4 : W4.ownsRow w.heap.size 5 1 (.slice A4 (m3 + 2) c4) (((rows l).take (j + 1)).flatMap kB).length ((((rows l).take (j + 1)).flatMap kB).map bv) := by
            rw [htk, List.flatMap_append, List.map_append, List.length_append, ← HM3.out, hq]; exact ho4
          have HO4 := Lib.hid hO4; clear hoA hDA hBA hkA hg4 hb4 hwz ho4 hO4; go_simp
          rcases hD4 with ⟨ops, hr, hlk, hhv, hms, hdp⟩ | ⟨at0, ops, hr, hlk⟩
          · subst hlk hhv hms; have hp0 : (0 : Int) ≤ (m3 : Int) := by omega
            have hp1 : (m3 : Int) ≥ 0 := by omega
            have hlt' : ¬(ops.length : Int) < 0 := by omega
            have hlt : ¬ops.length < 0 := by omega
            repeat' (first | go_values | go_skip | go_guarded | go_step | go_upon)
            have hol : ops.length ≤ 60 := by
              have := run_len hr; rw [List.length_take] at this; have h2 : (rows l).length = l.length := by simp [rows]
              simp only [List.length_nil] at this; omega
            have HDP := Lib.hid hdp; have HR9 := Lib.hid hr; clear hdp hr
            go_loopw [6, 11, 12] (fun dp d k wr => ∃ i : Nat, k = .int .i64 i ∧ i ≤ 0 ∧ d = .int .i64 (dpL (ops.drop (ops.length - i)) : Nat) ∧ wr = W4 ∧ Hid (W4.ownsRow w.heap.size 3 1 dp (ops.length - i) ((ints ops).take (ops.length - i)))) (fun _ _ k _ => 0 - (intOf k).toNat)
            case atStart => exact ⟨0, rfl, Nat.zero_le _, by simp [dpL], rfl, Lib.hid (by rw [Nat.sub_zero, List.take_of_length_le (by simp [ints])]; exact HDP.out)⟩
            case round =>
              obtain ⟨i, rfl, hi, rfl, rfl, HP⟩ := hrel
              by_cases hk : i < 0
              · have hk' : (i : Int) < 0 := by omega
                obtain ⟨k2, hk2⟩ : ∃ k2, ops.length - i = k2 + 1 := ⟨ops.length - i - 1, by omega⟩
                have ho6 := HP.out; rw [hk2] at ho6; obtain ⟨A6, c6, e6, hc6, -, hrd6⟩ := own_form ho6; subst e6; obtain ⟨a6, rfl, -, hcell6⟩ := hrd6.at_ (by omega); obtain ⟨t, ht⟩ : ∃ t, ops[k2]? = some t := ⟨_, List.getElem?_eq_getElem (by omega)⟩
                have hc6' : wr.cell? (a6.add k2) = some (.int .i64 (dpT t : Nat)) := hcell6 k2 _ (by rw [List.getElem?_take, if_pos (by omega), ints, List.getElem?_map, ht]; rfl); have hk2b : k2 ≤ 100000 := by omega
                have hk20 : (0 : Int) ≤ (k2 : Int) := by omega
                have hk2c : (k2 : Int) ≤ (c6 : Int) := by omega
                have HO6 := Lib.hid ho6; clear hcell6 hrd6 ho6
                repeat' (first | go_values | go_skip | go_guarded | go_step | go_upon)
                have e1 : ops.length - (i + 1) = k2 := by omega
                have hd1 : dpL (ops.drop k2) = max (dpT t) (dpL (ops.drop (k2 + 1))) := by
                  obtain ⟨hl1, he1⟩ := List.getElem?_eq_some_iff.1 ht; rw [List.drop_eq_getElem_cons hl1, he1]; rfl
                refine ⟨⟨i + 1, by simp, by omega, ?_, trivial, Lib.hid ?_⟩, by simp [intOf]; omega⟩
                · rw [e1, hd1]
                  congr 1
                  omega
                · rw [e1]; have := own_cutk (m := k2) HO6.out (Nat.le_succ _)
                  rwa [List.take_take, Nat.mul_one, Nat.min_eq_left (Nat.le_succ _)] at this
              · have hk' : ¬(i : Int) < 0 := by omega
                obtain rfl : i = 0 := by omega
                obtain ⟨D, hD⟩ : ∃ D, D = dpL (ops.drop (ops.length - 0)) := ⟨_, rfl⟩
                obtain ⟨k6, hk6⟩ : ∃ k6, k6 = ops.length - 0 := ⟨_, rfl⟩
                obtain ⟨M, hM⟩ : ∃ M, M = dpL ops := ⟨_, rfl⟩
                have hMb : M ≤ 60 := by
                  have := run_dp HR9.out; rw [List.length_take] at this; have h2 : (rows l).length = l.length := by simp [rows]
                  simp only [dpL] at this; omega
                have hDM : D ≤ M := by
                  rw [hD, hM]; have : dpL ops = max (dpL (ops.take (ops.length - 0))) (dpL (ops.drop (ops.length - 0))) := by rw [← dp_app, List.take_append_drop]
                  omega
                have ho6 := HP.out; rw [← hk6] at ho6; rw [← hD, ← hM]; obtain ⟨A6, c6, e6, hc6, -, -⟩ := own_form ho6; subst e6; have HO6 := Lib.hid ho6; have HDD := Lib.hid (And.intro hD (And.intro hk6 hM)); have hl6 : ((ops.length : Int) - 0) = (k6 : Int) := by omega
                have hk6b : k6 ≤ 60 := by omega
                have hD60 : D ≤ 60 := by omega
                clear ho6 hD hk6 hM HP HDP
                repeat' (first | ((with_reducible show Oper.wp _ _ _ _ _ _); with_reducible refine stop_bsu rfl ?_) | go_values | go_skip | go_guarded | go_step | go_upon)
                refine Lib.hid ?_; refine wp_v (v := .slice (some ⟨wr.heap.size, 0, none⟩) 1 1) (W' := wr.alloc (.cells ([.int .i64 ((D + 1 : Nat) : Int)] : List Value).toArray 3)) (by kernel_rfl) ?_; have hbB := bel0 wr (.cells ([.int .i64 ((D + 1 : Nat) : Int)] : List Value).toArray 3); have hkB := Bk.new wr 3 ([.int .i64 ((D + 1 : Nat) : Int)] : List Value).toArray; have hwz4 : w.heap.size ≤ wr.heap.size := hB4.size; generalize wr.alloc (.cells ([.int .i64 ((D + 1 : Nat) : Int)] : List Value).toArray 3) = WB at *; have hoB := own1_below HO4.out hbB; have hoI := (Keep.of_below (S := fun i => wr.heap.size ≤ i) hbB fun i _ h => h).own HO6.out fun i hi h => by have := (HO6.out.lt i hi).2; omega
                have hBB := hB4.trans (hbB.mono hwz4); generalize wr.heap.size = gB at *; clear hbB; go_simp
                repeat' (first | ((with_reducible show Oper.wp _ _ _ _ _ _); refine stop_ap (s := .tmp 80) (x := .tmp 83) (t := 58) rfl ?_) | go_values | go_skip | go_guarded | go_step | go_upon)
                refine Lib.hid ?_; refine wp_app (n := k6) (m := 1) rowI (.tmp 80) (.tmp 83) rfl rfl rfl hoI (bk_rd (k := 1) (n := 1) hkB rfl) (fun u hu => by obtain rfl := List.mem_singleton.1 hu; rfl) (by unfold maxLen; omega) (by omega) hBB.size fun dd W6 ho6 hg6 hb6 => ?_; have hoB6 := (Keep.of_grew hg6 (S := fun i => some i = (Value.slice A6 k6 c6).ownBlock) fun i e => e).own hoB fun i hi e => own_own_ne hoB hoI (by decide) i hi e.symm; have hB6 := hBB.trans hb6; have HO8 := Lib.hid hoB6; obtain ⟨A7, c7, e7, -, -, -⟩ := own_form ho6; subst e7; have HO7 := Lib.hid ho6; clear hoB hoI hBB hkB hg6 hb6 hwz4 hoB6 ho6; go_simp
                repeat' (first | go_values | go_skip | go_guarded | go_step | go_upon)
                obtain ⟨hD, hk6, hM⟩ := HDD.out; have hle : 0 ≤ ops.length := by omega
                have hin : ints (pushT 0 ops) = (ints ops).take (ops.length - 0) ++ [.int .i64 ((D + 1 : Nat) : Int)] := by
                  rw [hD]; unfold ints pushT; rw [List.map_append, List.map_take]; rfl
                refine ⟨⟨j + 1, by simp, by omega, HO8, Lib.hid hB6, Lib.hid (.inl ⟨pushT 0 ops, ?_, rfl, ?_, ?_, ?_⟩)⟩, by simp [intOf]; omega⟩
                · rw [htk, runK_snoc, HR9.out, hq]; simp only [if_neg hlt]
                · rw [push_len hle]
                  congr 1
                  omega
                · rw [push_dp hle, ← hD, ← hM]
                  congr 1
                  omega
                · rw [push_len hle, hin, ← hk6]; exact HO7.out
          · subst hlk; have hn0 : ¬((at0 : Int) < 0) := by omega
            have hn1 : (at0 : Int) ≥ 0 := by omega
            repeat' (first | go_values | go_skip | go_guarded | go_step | go_upon)
            go_roundw
            case rel => exact ⟨j + 1, by simp, by omega, HO4, Lib.hid hB4, Lib.hid (.inr ⟨at0, ops, by rw [htk, runK_snoc, hr], rfl⟩)⟩
            case measure => simp [intOf]; omega
        · have hqi : (x.toNat : Int) % 3 = 1 := by omega
          repeat' (first | ((with_reducible show Oper.wp _ _ _ _ _ _); with_reducible refine stop_bsu rfl ?_) | go_values | go_skip | go_guarded | go_step | go_upon)
          refine Lib.hid ?_; refine wp_v (v := .slice (some ⟨wr.heap.size, 0, none⟩) 1 1) (W' := wr.alloc (.cells ([.int .u8 21] : List Value).toArray 5)) (by kernel_rfl) ?_; have hbA := bel0 wr (.cells ([.int .u8 21] : List Value).toArray 5); have hkA := Bk.new wr 5 ([.int .u8 21] : List Value).toArray; have hwz : w.heap.size ≤ wr.heap.size := HB.out.size; generalize wr.alloc (.cells ([.int .u8 21] : List Value).toArray 5) = WA at *; have hoA := own1_below HO.out hbA; have hDA := HD.out.keep (Keep.of_below (S := fun i => wr.heap.size ≤ i) hbA fun i _ h => h) fun ho i hi h => by have := (ho.lt i hi).2; omega
          have hBA := HB.out.trans (hbA.mono hwz); generalize wr.heap.size = gA at *; clear hbA; go_simp
          repeat' (first | ((with_reducible show Oper.wp _ _ _ _ _ _); refine stop_ap (s := .tmp 44) (x := .tmp 45) (t := 35) rfl ?_) | go_values | go_skip | go_guarded | go_step | go_upon)
          refine Lib.hid ?_; refine wp_app (n := m3) (m := 1) bytesRow (.tmp 44) (.tmp 45) rfl rfl rfl (show WA.ownsRow _ _ _ _ m3 _ by rw [HM3.out]; exact hoA) (bk_rd (k := 1) (n := 1) hkA rfl) (by decide) (by have := hm60; unfold maxLen; omega) (by have := hm60; omega) hBA.size fun bb W4 ho4 hg4 hb4 => ?_; have hD4 := hDA.keep (Keep.of_grew hg4 (S := fun i => some i = (Value.slice A3 m3 c3).ownBlock) fun i e => e) fun ho i hi e => own_own_ne (by rw [HM3.out]; exact hoA) ho (by decide) i e.symm hi; have hB4 := hBA.trans hb4; obtain ⟨A4, c4, e4, -, -, -⟩ := own_form ho4; subst e4
          have hO4 : W4.ownsRow w.heap.size 5 1 (.slice A4 (m3 + 1) c4) (((rows l).take (j + 1)).flatMap kB).length ((((rows l).take (j + 1)).flatMap kB).map bv) := by
            rw [htk, List.flatMap_append, List.map_append, List.length_append, ← HM3.out, hq]; exact ho4
          have HO4 := Lib.hid hO4; clear hoA hDA hBA hkA hg4 hb4 hwz ho4 hO4; go_simp
          rcases hD4 with ⟨ops, hr, hlk, hhv, hms, hdp⟩ | ⟨at0, ops, hr, hlk⟩
          · subst hlk hhv hms; have hp0 : (0 : Int) ≤ (m3 : Int) := by omega
            have hp1 : (m3 : Int) ≥ 0 := by omega
            by_cases hlt : ops.length < 1
            · have hlt' : (ops.length : Int) < 1 := by omega
              repeat' (first | go_values | go_skip | go_guarded | go_step | go_upon)
              go_roundw
              case rel => exact ⟨j + 1, by simp, by omega, HO4, Lib.hid hB4, Lib.hid (.inr ⟨m3, ops, by rw [htk, runK_snoc, hr, hq]; simp only [if_pos hlt, Nat.zero_add]; rw [HM3.out], rfl⟩)⟩
              case measure => simp [intOf]; omega
            · have hlt' : ¬(ops.length : Int) < 1 := by omega
              repeat' (first | go_values | go_skip | go_guarded | go_step | go_upon)
              have hol : ops.length ≤ 60 := by
                have := run_len hr; rw [List.length_take] at this; have h2 : (rows l).length = l.length := by simp [rows]
                simp only [List.length_nil] at this; omega
              have HDP := Lib.hid hdp; have HR9 := Lib.hid hr; clear hdp hr
              go_loopw [6, 11, 12] (fun dp d k wr => ∃ i : Nat, k = .int .i64 i ∧ i ≤ 1 ∧ d = .int .i64 (dpL (ops.drop (ops.length - i)) : Nat) ∧ wr = W4 ∧ Hid (W4.ownsRow w.heap.size 3 1 dp (ops.length - i) ((ints ops).take (ops.length - i)))) (fun _ _ k _ => 1 - (intOf k).toNat)
              case atStart => exact ⟨0, rfl, Nat.zero_le _, by simp [dpL], rfl, Lib.hid (by rw [Nat.sub_zero, List.take_of_length_le (by simp [ints])]; exact HDP.out)⟩
              case round =>
                obtain ⟨i, rfl, hi, rfl, rfl, HP⟩ := hrel
                by_cases hk : i < 1
                · have hk' : (i : Int) < 1 := by omega
                  obtain ⟨k2, hk2⟩ : ∃ k2, ops.length - i = k2 + 1 := ⟨ops.length - i - 1, by omega⟩
                  have ho6 := HP.out; rw [hk2] at ho6; obtain ⟨A6, c6, e6, hc6, -, hrd6⟩ := own_form ho6; subst e6; obtain ⟨a6, rfl, -, hcell6⟩ := hrd6.at_ (by omega); obtain ⟨t, ht⟩ : ∃ t, ops[k2]? = some t := ⟨_, List.getElem?_eq_getElem (by omega)⟩
                  have hc6' : wr.cell? (a6.add k2) = some (.int .i64 (dpT t : Nat)) := hcell6 k2 _ (by rw [List.getElem?_take, if_pos (by omega), ints, List.getElem?_map, ht]; rfl); have hk2b : k2 ≤ 100000 := by omega
                  have hk20 : (0 : Int) ≤ (k2 : Int) := by omega
                  have hk2c : (k2 : Int) ≤ (c6 : Int) := by omega
                  have HO6 := Lib.hid ho6; clear hcell6 hrd6 ho6
                  repeat' (first | go_values | go_skip | go_guarded | go_step | go_upon)
                  have e1 : ops.length - (i + 1) = k2 := by omega
                  have hd1 : dpL (ops.drop k2) = max (dpT t) (dpL (ops.drop (k2 + 1))) := by
                    obtain ⟨hl1, he1⟩ := List.getElem?_eq_some_iff.1 ht; rw [List.drop_eq_getElem_cons hl1, he1]; rfl
                  refine ⟨⟨i + 1, by simp, by omega, ?_, trivial, Lib.hid ?_⟩, by simp [intOf]; omega⟩
                  · rw [e1, hd1]
                    congr 1
                    omega
                  · rw [e1]; have := own_cutk (m := k2) HO6.out (Nat.le_succ _)
                    rwa [List.take_take, Nat.mul_one, Nat.min_eq_left (Nat.le_succ _)] at this
                · have hk' : ¬(i : Int) < 1 := by omega
                  obtain rfl : i = 1 := by omega
                  obtain ⟨D, hD⟩ : ∃ D, D = dpL (ops.drop (ops.length - 1)) := ⟨_, rfl⟩
                  obtain ⟨k6, hk6⟩ : ∃ k6, k6 = ops.length - 1 := ⟨_, rfl⟩
                  obtain ⟨M, hM⟩ : ∃ M, M = dpL ops := ⟨_, rfl⟩
                  have hMb : M ≤ 60 := by
                    have := run_dp HR9.out; rw [List.length_take] at this; have h2 : (rows l).length = l.length := by simp [rows]
                    simp only [dpL] at this; omega
                  have hDM : D ≤ M := by
                    rw [hD, hM]; have : dpL ops = max (dpL (ops.take (ops.length - 1))) (dpL (ops.drop (ops.length - 1))) := by rw [← dp_app, List.take_append_drop]
                    omega
                  have ho6 := HP.out; rw [← hk6] at ho6; rw [← hD, ← hM]; obtain ⟨A6, c6, e6, hc6, -, -⟩ := own_form ho6; subst e6; have HO6 := Lib.hid ho6; have HDD := Lib.hid (And.intro hD (And.intro hk6 hM)); have hl6 : ((ops.length : Int) - 1) = (k6 : Int) := by omega
                  have hk6b : k6 ≤ 60 := by omega
                  have hD60 : D ≤ 60 := by omega
                  clear ho6 hD hk6 hM HP HDP
                  repeat' (first | ((with_reducible show Oper.wp _ _ _ _ _ _); with_reducible refine stop_bsu rfl ?_) | go_values | go_skip | go_guarded | go_step | go_upon)
                  refine Lib.hid ?_; refine wp_v (v := .slice (some ⟨wr.heap.size, 0, none⟩) 1 1) (W' := wr.alloc (.cells ([.int .i64 ((D + 1 : Nat) : Int)] : List Value).toArray 3)) (by kernel_rfl) ?_; have hbB := bel0 wr (.cells ([.int .i64 ((D + 1 : Nat) : Int)] : List Value).toArray 3); have hkB := Bk.new wr 3 ([.int .i64 ((D + 1 : Nat) : Int)] : List Value).toArray; have hwz4 : w.heap.size ≤ wr.heap.size := hB4.size; generalize wr.alloc (.cells ([.int .i64 ((D + 1 : Nat) : Int)] : List Value).toArray 3) = WB at *; have hoB := own1_below HO4.out hbB; have hoI := (Keep.of_below (S := fun i => wr.heap.size ≤ i) hbB fun i _ h => h).own HO6.out fun i hi h => by have := (HO6.out.lt i hi).2; omega
                  have hBB := hB4.trans (hbB.mono hwz4); generalize wr.heap.size = gB at *; clear hbB; go_simp
                  repeat' (first | ((with_reducible show Oper.wp _ _ _ _ _ _); refine stop_ap (s := .tmp 80) (x := .tmp 83) (t := 58) rfl ?_) | go_values | go_skip | go_guarded | go_step | go_upon)
                  refine Lib.hid ?_; refine wp_app (n := k6) (m := 1) rowI (.tmp 80) (.tmp 83) rfl rfl rfl hoI (bk_rd (k := 1) (n := 1) hkB rfl) (fun u hu => by obtain rfl := List.mem_singleton.1 hu; rfl) (by unfold maxLen; omega) (by omega) hBB.size fun dd W6 ho6 hg6 hb6 => ?_; have hoB6 := (Keep.of_grew hg6 (S := fun i => some i = (Value.slice A6 k6 c6).ownBlock) fun i e => e).own hoB fun i hi e => own_own_ne hoB hoI (by decide) i hi e.symm; have hB6 := hBB.trans hb6; have HO8 := Lib.hid hoB6; obtain ⟨A7, c7, e7, -, -, -⟩ := own_form ho6; subst e7; have HO7 := Lib.hid ho6; clear hoB hoI hBB hkB hg6 hb6 hwz4 hoB6 ho6; go_simp
                  repeat' (first | go_values | go_skip | go_guarded | go_step | go_upon)
                  obtain ⟨hD, hk6, hM⟩ := HDD.out; have hle : 1 ≤ ops.length := by omega
                  have hin : ints (pushT 1 ops) = (ints ops).take (ops.length - 1) ++ [.int .i64 ((D + 1 : Nat) : Int)] := by
                    rw [hD]; unfold ints pushT; rw [List.map_append, List.map_take]; rfl
                  refine ⟨⟨j + 1, by simp, by omega, HO8, Lib.hid hB6, Lib.hid (.inl ⟨pushT 1 ops, ?_, rfl, ?_, ?_, ?_⟩)⟩, by simp [intOf]; omega⟩
                  · rw [htk, runK_snoc, HR9.out, hq]; simp only [if_neg hlt]
                  · rw [push_len hle]
                    congr 1
                    omega
                  · rw [push_dp hle, ← hD, ← hM]
                    congr 1
                    omega
                  · rw [push_len hle, hin, ← hk6]; exact HO7.out
          · subst hlk; have hn0 : ¬((at0 : Int) < 0) := by omega
            have hn1 : (at0 : Int) ≥ 0 := by omega
            repeat' (first | go_values | go_skip | go_guarded | go_step | go_upon)
            go_roundw
            case rel => exact ⟨j + 1, by simp, by omega, HO4, Lib.hid hB4, Lib.hid (.inr ⟨at0, ops, by rw [htk, runK_snoc, hr], rfl⟩)⟩
            case measure => simp [intOf]; omega
        · have hqi : (x.toNat : Int) % 3 = 2 := by omega
          repeat' (first | ((with_reducible show Oper.wp _ _ _ _ _ _); with_reducible refine stop_bsu rfl ?_) | go_values | go_skip | go_guarded | go_step | go_upon)
          refine Lib.hid ?_; refine wp_v (v := .slice (some ⟨wr.heap.size, 0, none⟩) 1 1) (W' := wr.alloc (.cells ([.int .u8 3] : List Value).toArray 5)) (by kernel_rfl) ?_; have hbA := bel0 wr (.cells ([.int .u8 3] : List Value).toArray 5); have hkA := Bk.new wr 5 ([.int .u8 3] : List Value).toArray; have hwz : w.heap.size ≤ wr.heap.size := HB.out.size; generalize wr.alloc (.cells ([.int .u8 3] : List Value).toArray 5) = WA at *; have hoA := own1_below HO.out hbA; have hDA := HD.out.keep (Keep.of_below (S := fun i => wr.heap.size ≤ i) hbA fun i _ h => h) fun ho i hi h => by have := (ho.lt i hi).2; omega
          have hBA := HB.out.trans (hbA.mono hwz); generalize wr.heap.size = gA at *; clear hbA; go_simp
          repeat' (first | ((with_reducible show Oper.wp _ _ _ _ _ _); refine stop_ap (s := .tmp 49) (x := .tmp 50) (t := 35) rfl ?_) | go_values | go_skip | go_guarded | go_step | go_upon)
          refine Lib.hid ?_; refine wp_app (n := m3) (m := 1) bytesRow (.tmp 49) (.tmp 50) rfl rfl rfl (show WA.ownsRow _ _ _ _ m3 _ by rw [HM3.out]; exact hoA) (bk_rd (k := 1) (n := 1) hkA rfl) (by decide) (by have := hm60; unfold maxLen; omega) (by have := hm60; omega) hBA.size fun bb W4 ho4 hg4 hb4 => ?_; have hD4 := hDA.keep (Keep.of_grew hg4 (S := fun i => some i = (Value.slice A3 m3 c3).ownBlock) fun i e => e) fun ho i hi e => own_own_ne (by rw [HM3.out]; exact hoA) ho (by decide) i e.symm hi; have hB4 := hBA.trans hb4; obtain ⟨A4, c4, e4, -, -, -⟩ := own_form ho4; subst e4
          have hO4 : W4.ownsRow w.heap.size 5 1 (.slice A4 (m3 + 1) c4) (((rows l).take (j + 1)).flatMap kB).length ((((rows l).take (j + 1)).flatMap kB).map bv) := by
            rw [htk, List.flatMap_append, List.map_append, List.length_append, ← HM3.out, hq]; exact ho4
          have HO4 := Lib.hid hO4; clear hoA hDA hBA hkA hg4 hb4 hwz ho4 hO4; go_simp
          rcases hD4 with ⟨ops, hr, hlk, hhv, hms, hdp⟩ | ⟨at0, ops, hr, hlk⟩
          · subst hlk hhv hms; have hp0 : (0 : Int) ≤ (m3 : Int) := by omega
            have hp1 : (m3 : Int) ≥ 0 := by omega
            by_cases hlt : ops.length < 2
            · have hlt' : (ops.length : Int) < 2 := by omega
              repeat' (first | go_values | go_skip | go_guarded | go_step | go_upon)
              go_roundw
              case rel => exact ⟨j + 1, by simp, by omega, HO4, Lib.hid hB4, Lib.hid (.inr ⟨m3, ops, by rw [htk, runK_snoc, hr, hq]; simp only [if_pos hlt, Nat.zero_add]; rw [HM3.out], rfl⟩)⟩
              case measure => simp [intOf]; omega
            · have hlt' : ¬(ops.length : Int) < 2 := by omega
              repeat' (first | go_values | go_skip | go_guarded | go_step | go_upon)
              have hol : ops.length ≤ 60 := by
                have := run_len hr; rw [List.length_take] at this; have h2 : (rows l).length = l.length := by simp [rows]
                simp only [List.length_nil] at this; omega
              have HDP := Lib.hid hdp; have HR9 := Lib.hid hr; clear hdp hr
              go_loopw [6, 11, 12] (fun dp d k wr => ∃ i : Nat, k = .int .i64 i ∧ i ≤ 2 ∧ d = .int .i64 (dpL (ops.drop (ops.length - i)) : Nat) ∧ wr = W4 ∧ Hid (W4.ownsRow w.heap.size 3 1 dp (ops.length - i) ((ints ops).take (ops.length - i)))) (fun _ _ k _ => 2 - (intOf k).toNat)
              case atStart => exact ⟨0, rfl, Nat.zero_le _, by simp [dpL], rfl, Lib.hid (by rw [Nat.sub_zero, List.take_of_length_le (by simp [ints])]; exact HDP.out)⟩
              case round =>
                obtain ⟨i, rfl, hi, rfl, rfl, HP⟩ := hrel
                by_cases hk : i < 2
                · have hk' : (i : Int) < 2 := by omega
                  obtain ⟨k2, hk2⟩ : ∃ k2, ops.length - i = k2 + 1 := ⟨ops.length - i - 1, by omega⟩
                  have ho6 := HP.out; rw [hk2] at ho6; obtain ⟨A6, c6, e6, hc6, -, hrd6⟩ := own_form ho6; subst e6; obtain ⟨a6, rfl, -, hcell6⟩ := hrd6.at_ (by omega); obtain ⟨t, ht⟩ : ∃ t, ops[k2]? = some t := ⟨_, List.getElem?_eq_getElem (by omega)⟩
                  have hc6' : wr.cell? (a6.add k2) = some (.int .i64 (dpT t : Nat)) := hcell6 k2 _ (by rw [List.getElem?_take, if_pos (by omega), ints, List.getElem?_map, ht]; rfl); have hk2b : k2 ≤ 100000 := by omega
                  have hk20 : (0 : Int) ≤ (k2 : Int) := by omega
                  have hk2c : (k2 : Int) ≤ (c6 : Int) := by omega
                  have HO6 := Lib.hid ho6; clear hcell6 hrd6 ho6
                  repeat' (first | go_values | go_skip | go_guarded | go_step | go_upon)
                  have e1 : ops.length - (i + 1) = k2 := by omega
                  have hd1 : dpL (ops.drop k2) = max (dpT t) (dpL (ops.drop (k2 + 1))) := by
                    obtain ⟨hl1, he1⟩ := List.getElem?_eq_some_iff.1 ht; rw [List.drop_eq_getElem_cons hl1, he1]; rfl
                  refine ⟨⟨i + 1, by simp, by omega, ?_, trivial, Lib.hid ?_⟩, by simp [intOf]; omega⟩
                  · rw [e1, hd1]
                    congr 1
                    omega
                  · rw [e1]; have := own_cutk (m := k2) HO6.out (Nat.le_succ _)
                    rwa [List.take_take, Nat.mul_one, Nat.min_eq_left (Nat.le_succ _)] at this
                · have hk' : ¬(i : Int) < 2 := by omega
                  obtain rfl : i = 2 := by omega
                  obtain ⟨D, hD⟩ : ∃ D, D = dpL (ops.drop (ops.length - 2)) := ⟨_, rfl⟩
                  obtain ⟨k6, hk6⟩ : ∃ k6, k6 = ops.length - 2 := ⟨_, rfl⟩
                  obtain ⟨M, hM⟩ : ∃ M, M = dpL ops := ⟨_, rfl⟩
                  have hMb : M ≤ 60 := by
                    have := run_dp HR9.out; rw [List.length_take] at this; have h2 : (rows l).length = l.length := by simp [rows]
                    simp only [dpL] at this; omega
                  have hDM : D ≤ M := by
                    rw [hD, hM]; have : dpL ops = max (dpL (ops.take (ops.length - 2))) (dpL (ops.drop (ops.length - 2))) := by rw [← dp_app, List.take_append_drop]
                    omega
                  have ho6 := HP.out; rw [← hk6] at ho6; rw [← hD, ← hM]; obtain ⟨A6, c6, e6, hc6, -, -⟩ := own_form ho6; subst e6; have HO6 := Lib.hid ho6; have HDD := Lib.hid (And.intro hD (And.intro hk6 hM)); have hl6 : ((ops.length : Int) - 2) = (k6 : Int) := by omega
                  have hk6b : k6 ≤ 60 := by omega
                  have hD60 : D ≤ 60 := by omega
                  clear ho6 hD hk6 hM HP HDP
                  repeat' (first | ((with_reducible show Oper.wp _ _ _ _ _ _); with_reducible refine stop_bsu rfl ?_) | go_values | go_skip | go_guarded | go_step | go_upon)
                  refine Lib.hid ?_; refine wp_v (v := .slice (some ⟨wr.heap.size, 0, none⟩) 1 1) (W' := wr.alloc (.cells ([.int .i64 ((D + 1 : Nat) : Int)] : List Value).toArray 3)) (by kernel_rfl) ?_; have hbB := bel0 wr (.cells ([.int .i64 ((D + 1 : Nat) : Int)] : List Value).toArray 3); have hkB := Bk.new wr 3 ([.int .i64 ((D + 1 : Nat) : Int)] : List Value).toArray; have hwz4 : w.heap.size ≤ wr.heap.size := hB4.size; generalize wr.alloc (.cells ([.int .i64 ((D + 1 : Nat) : Int)] : List Value).toArray 3) = WB at *; have hoB := own1_below HO4.out hbB; have hoI := (Keep.of_below (S := fun i => wr.heap.size ≤ i) hbB fun i _ h => h).own HO6.out fun i hi h => by have := (HO6.out.lt i hi).2; omega
                  have hBB := hB4.trans (hbB.mono hwz4); generalize wr.heap.size = gB at *; clear hbB; go_simp
                  repeat' (first | ((with_reducible show Oper.wp _ _ _ _ _ _); refine stop_ap (s := .tmp 80) (x := .tmp 83) (t := 58) rfl ?_) | go_values | go_skip | go_guarded | go_step | go_upon)
                  refine Lib.hid ?_; refine wp_app (n := k6) (m := 1) rowI (.tmp 80) (.tmp 83) rfl rfl rfl hoI (bk_rd (k := 1) (n := 1) hkB rfl) (fun u hu => by obtain rfl := List.mem_singleton.1 hu; rfl) (by unfold maxLen; omega) (by omega) hBB.size fun dd W6 ho6 hg6 hb6 => ?_; have hoB6 := (Keep.of_grew hg6 (S := fun i => some i = (Value.slice A6 k6 c6).ownBlock) fun i e => e).own hoB fun i hi e => own_own_ne hoB hoI (by decide) i hi e.symm; have hB6 := hBB.trans hb6; have HO8 := Lib.hid hoB6; obtain ⟨A7, c7, e7, -, -, -⟩ := own_form ho6; subst e7; have HO7 := Lib.hid ho6; clear hoB hoI hBB hkB hg6 hb6 hwz4 hoB6 ho6; go_simp
                  repeat' (first | go_values | go_skip | go_guarded | go_step | go_upon)
                  obtain ⟨hD, hk6, hM⟩ := HDD.out; have hle : 2 ≤ ops.length := by omega
                  have hin : ints (pushT 2 ops) = (ints ops).take (ops.length - 2) ++ [.int .i64 ((D + 1 : Nat) : Int)] := by
                    rw [hD]; unfold ints pushT; rw [List.map_append, List.map_take]; rfl
                  refine ⟨⟨j + 1, by simp, by omega, HO8, Lib.hid hB6, Lib.hid (.inl ⟨pushT 2 ops, ?_, rfl, ?_, ?_, ?_⟩)⟩, by simp [intOf]; omega⟩
                  · rw [htk, runK_snoc, HR9.out, hq]; simp only [if_neg hlt]
                  · rw [push_len hle]
                    congr 1
                    omega
                  · rw [push_dp hle, ← hD, ← hM]
                    congr 1
                    omega
                  · rw [push_len hle, hin, ← hk6]; exact HO7.out
          · subst hlk; have hn0 : ¬((at0 : Int) < 0) := by omega
            have hn1 : (at0 : Int) ≥ 0 := by omega
            repeat' (first | go_values | go_skip | go_guarded | go_step | go_upon)
            go_roundw
            case rel => exact ⟨j + 1, by simp, by omega, HO4, Lib.hid hB4, Lib.hid (.inr ⟨at0, ops, by rw [htk, runK_snoc, hr], rfl⟩)⟩
            case measure => simp [intOf]; omega
      · have hjl' : ¬(j : Int) < (n : Int) := by omega
        obtain rfl : j = l.length := by omega
        have hta : (rows l).take l.length = rows l := List.take_of_length_le (by simp [rows]); have hO9 := HO.out; have hD9 := HD.out; have hm9 := HM3.out; rw [hta] at hO9 hD9 hm9; have h60 : l.length ≤ 60 := by omega
        have hm60 : m3 ≤ 1000 := by
          have h1 := kB_len (rows l); have h2 : (rows l).length = l.length := by simp [rows]
          omega
        obtain ⟨A9, c9, e9, hc9, -, hrd9⟩ := own_form hO9; rw [← hm9] at e9 hc9 hrd9; injection e9 with e9 _ e9c; subst e9 e9c; have HRD := Lib.hid hrd9; have HC9 := Lib.hid hc9; have hres : ∀ (W : World), Below wr.heap.size wr W → Below w.heap.size w W := fun W h => HB.out.trans (h.mono HB.out.size); have HRES := Lib.hid hres; have HM9 := Lib.hid hm9; clear hO9 hrd9 hc9 hres hta HO HM3 HD hm9
        rcases hD9 with ⟨ops, hr, rfl, rfl, rfl, -⟩ | ⟨a0, ops, hr, rfl⟩
        · by_cases h1 : ops.length = 1
          · obtain ⟨t, rfl⟩ : ∃ t, ops = [t] := by
              match ops, h1 with
              | [t], _ => exact ⟨t, rfl⟩
            obtain ⟨hz, ha, hcn⟩ := de_one h60 hr; have hdp : dpL [t] = dpT t := by simp [dpL]
            rw [hdp]; obtain ⟨dt, hdt⟩ : ∃ dt, dt = dpT t := ⟨_, rfl⟩
            rw [← hdt] at hz ⊢; clear hdp hr
            by_cases hd : 16 < dt
            · rw [if_pos hd] at hz; have hd' : (16 : Int) < (dt : Int) := by omega
              repeat' (first | go_values | go_skip | go_guarded | go_step | go_upon)
              refine (dec_call (l := (rows l).flatMap kB) (HVV.out.below HB.out) HRD.out HC9.out (by omega) (Nat.le_refl _) ha hz).mono ?_; rintro e Wc ⟨p0, ks0, Ax, cx, rfl, -, -, hb⟩; have HB2 := HB; clear HB; have HB : Hid (BX wr [] Wc) := Lib.hid ((BX.start wr).call hb); clear hb ha hz; dsimp only
              repeat' (first | ((with_reducible show Oper.wp _ _ _ _ _ _); (first | (with_reducible refine is_al 47 rfl ?_; refine al_g HB 47 (ec zp (.slice none 0 0)) (by kernel_rfl) ?_; clear HB; intro g1 W HB; go_simp) | (with_reducible refine is_st 47 _ _ rfl ?_; refine st_ec 0 HB rfl _ _ rfl rfl rfl ?_; clear HB; intro W HB; dsimp only [List.set] at HB; go_simp))) | go_values | go_skip | go_guarded | go_step | go_upon)
              exact bodyPost_ret (v := .bool true) (by simp [results, Tryz.results4, go_sem]) rfl ⟨rfl, HRES.out _ HB.out.bel⟩
            · rw [if_neg hd] at hz; have hd' : ¬(16 : Int) < (dt : Int) := by omega
              repeat' (first | go_values | go_skip | go_guarded | go_step | go_upon)
              refine (dec_call (l := (rows l).flatMap kB) (HVV.out.below HB.out) HRD.out HC9.out (by omega) (Nat.le_refl _) ha hz).mono ?_; rintro e Wc ⟨p0, ks0, Ax, cx, rfl, -, -, hb⟩; have HB2 := HB; clear HB; have HB : Hid (BX wr [] Wc) := Lib.hid ((BX.start wr).call hb); clear hb ha hz; dsimp only
              repeat' (first | ((with_reducible show Oper.wp _ _ _ _ _ _); (first | (with_reducible refine is_al 47 rfl ?_; refine al_g HB 47 (ec zp (.slice none 0 0)) (by kernel_rfl) ?_; clear HB; intro g1 W HB; go_simp) | (with_reducible refine is_st 47 _ _ rfl ?_; refine st_ec 0 HB rfl _ _ rfl rfl rfl ?_; clear HB; intro W HB; dsimp only [List.set] at HB; go_simp))) | go_values | go_skip | go_guarded | go_step | go_upon)
              refine (cnt_call (l := (rows l).flatMap kB) (HVV.out.below (HB2.out.trans (HB.out.bel.mono HB2.out.size))) (HRD.out.belowMono HB.out.bel (Nat.le_refl _)) HC9.out (by omega) HB.out.bel.size hcn).mono ?_; rintro e Wd ⟨rfl, hb⟩; replace HB := Lib.hid (HB.out.call hb); clear hb; dsimp only
              repeat' (first | go_values | go_skip | go_guarded | go_step | go_upon)
              exact bodyPost_ret (v := .bool true) (by simp [results, Tryz.results4, go_sem]) rfl ⟨rfl, HRES.out _ HB.out.bel⟩
          · obtain ⟨hz, ha⟩ := de_many h60 hr h1; rw [← HM9.out] at ha; have h1' : ((ops.length : Int) == 1) = false := by rw [beq_eq_false_iff_ne]; omega
            clear hr
            repeat' (first | go_values | go_skip | go_guarded | go_step | go_upon)
            refine (dec_call (l := (rows l).flatMap kB) (HVV.out.below HB.out) HRD.out HC9.out (by omega) (Nat.le_refl _) ha hz).mono ?_; rintro e Wc ⟨p0, ks0, Ax, cx, rfl, -, -, hb⟩; have HB2 := HB; clear HB; have HB : Hid (BX wr [] Wc) := Lib.hid ((BX.start wr).call hb); clear hb ha hz; dsimp only
            repeat' (first | ((with_reducible show Oper.wp _ _ _ _ _ _); (first | (with_reducible refine is_al 47 rfl ?_; refine al_g HB 47 (ec zp (.slice none 0 0)) (by kernel_rfl) ?_; clear HB; intro g1 W HB; go_simp) | (with_reducible refine is_st 47 _ _ rfl ?_; refine st_ec 0 HB rfl _ _ rfl rfl rfl ?_; clear HB; intro W HB; dsimp only [List.set] at HB; go_simp))) | go_values | go_skip | go_guarded | go_step | go_upon)
            exact bodyPost_ret (v := .bool true) (by simp [results, Tryz.results4, go_sem]) rfl ⟨rfl, HRES.out _ HB.out.bel⟩
        · obtain ⟨hz, ha⟩ := de_lack h60 hr; have hn1 : (0 : Int) ≤ (a0 : Int) := by omega
          have hn2 : (a0 : Int) ≥ 0 := by omega
          clear hr
          repeat' (first | go_values | go_skip | go_guarded | go_step | go_upon)
          refine (dec_call (l := (rows l).flatMap kB) (HVV.out.below HB.out) HRD.out HC9.out (by omega) (Nat.le_refl _) ha hz).mono ?_; rintro e Wc ⟨p0, ks0, Ax, cx, rfl, -, -, hb⟩; have HB2 := HB; clear HB; have HB : Hid (BX wr [] Wc) := Lib.hid ((BX.start wr).call hb); clear hb ha hz; dsimp only
          repeat' (first | ((with_reducible show Oper.wp _ _ _ _ _ _); (first | (with_reducible refine is_al 47 rfl ?_; refine al_g HB 47 (ec zp (.slice none 0 0)) (by kernel_rfl) ?_; clear HB; intro g1 W HB; go_simp) | (with_reducible refine is_st 47 _ _ rfl ?_; refine st_ec 0 HB rfl _ _ rfl rfl rfl ?_; clear HB; intro W HB; dsimp only [List.set] at HB; go_simp))) | go_values | go_skip | go_guarded | go_step | go_upon)
          exact bodyPost_ret (v := .bool true) (by simp [results, Tryz.results4, go_sem]) rfl ⟨rfl, HRES.out _ HB.out.bel⟩
end Go.Proofs.YtlaiocdnddnnaaaGreatDoor
