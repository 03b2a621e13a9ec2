/- dec's digits: isDigit, isDigits, isWhole by their contracts. Condition: a text of ASCII bytes. -/
/- dec.gather by its contract: what the digits of a text are worth. Condition: a text of ASCII bytes. -/
/- strings.Cut at a point, the texts that known parses, one by one. Condition: none but what is said. -/
/- dec's isDigits, isWhole of any text, by their contracts. Condition: the text is not too long. -/
/- dec.Parse of any text, case by case, by the contracts of what it calls. Condition: these. -/
import Derived.Test.YtngkolcpbgibcaaGreatDoorDiv64
import Derived.Test.YtngkolcpbgibcaaGreatDoorJoin
import Derived.Laws.RangeString
import Derived.Test.YtngkolcpbgibcaaGreatDoorW4
import Derived.Test.YtngkolcpbgibcaaGreatDoorD5
import Derived.Laws.RangeAny
set_option linter.unusedVariables false
set_option linter.unusedSimpArgs false
namespace Go.Proofs.YtngkolcpbgibcaaGreatDoor
open Go.RowKit
def dgB (c : UInt8) : Bool := 48 ≤ c.toNat && c.toNat ≤ 57
theorem isDigit_any {w : World} {c : UInt8} :
    Calls Tryz.prog 211 #[.int .i32 (c.toNat : Nat)] w fun e w' => e = .returned (.bool (dgB c)) ∧ w' = w := by
  have hc := c.toNat_lt
  by_cases h0 : 48 ≤ c.toNat
  · by_cases h1 : c.toNat ≤ 57
    · have HV := Lib.hid (show dgB c = true by simp [dgB, h0, h1]); have h0' : (48 : Int) ≤ ((c.toNat : Nat) : Int) := by omega
      have h1' : ((c.toNat : Nat) : Int) ≤ 57 := by omega
      generalize c.toNat = k at *; go_enter Tryz.func211, Tryz.ntmps211; go_wp2; go_ret; exact ⟨by rw [HV.out]; rfl, rfl⟩
    · have HV := Lib.hid (show dgB c = false by simp [dgB]; omega); have h0' : (48 : Int) ≤ ((c.toNat : Nat) : Int) := by omega
      have h1' : decide (((c.toNat : Nat) : Int) ≤ 57) = false := decide_eq_false (by omega); generalize c.toNat = k at *; clear h1; go_enter Tryz.func211, Tryz.ntmps211; go_wp2; go_ret; exact ⟨by rw [HV.out]; rfl, rfl⟩
  · have HV := Lib.hid (show dgB c = false by simp [dgB]; omega); have h0' : decide ((48 : Int) ≤ ((c.toNat : Nat) : Int)) = false := decide_eq_false (by omega); generalize c.toNat = k at *; clear h0; go_enter Tryz.func211, Tryz.ntmps211; go_wp2; go_ret; exact ⟨by rw [HV.out]; rfl, rfl⟩
def Asc (s : ByteArray) : Prop := ∀ (i : Nat) (h : i < s.size), (s[i]'h).toNat < 128
def dgsB (s : ByteArray) : Bool := s.data.toList.all dgB && !s.data.toList.isEmpty
theorem take_snocB (s : ByteArray) (k : Nat) (h : k < s.size) : s.data.toList.take (k + 1) = s.data.toList.take k ++ [s[k]] := by
  rw [List.take_succ_eq_append_getElem (by simpa using h)]; rfl
theorem dgs_stop (s : ByteArray) (k : Nat) (h : k < s.size) (hd : dgB s[k] = false) : dgsB s = false := by
  unfold dgsB; rw [Bool.and_eq_false_iff]
  left
  rw [List.all_eq_false]; exact ⟨s[k], List.getElem_mem (l := s.data.toList) (n := k) (by simpa using h), by simp [hd]⟩
theorem dgs_all (s : ByteArray) (k : Nat) (h : ¬ k < s.size) (hd : (s.data.toList.take k).all dgB = true) : dgsB s = !s.data.toList.isEmpty := by
  unfold dgsB; rw [List.take_of_length_le (by simp; omega)] at hd; rw [hd, Bool.true_and]
end Go.Proofs.YtngkolcpbgibcaaGreatDoor
namespace Go.Proofs.YtngkolcpbgibcaaGreatDoor
open Go.RowKit
def gvF (n : Nat) (c : UInt8) : Nat := if dgB c then n * 10 + (c.toNat - 48) else n
def gv (l : List UInt8) : Nat := l.foldl gvF 0
def gN (l : List UInt8) : Nat := if gv l < 18446744073709551616 then gv l else 0
def gB (l : List UInt8) : Bool := decide (gv l < 18446744073709551616)
theorem gNB_yes {l : List UInt8} (h : gv l < 18446744073709551616) : gN l = gv l ∧ gB l = true := ⟨if_pos h, decide_eq_true h⟩
theorem gNB_no {l : List UInt8} (h : ¬ gv l < 18446744073709551616) : gN l = 0 ∧ gB l = false := ⟨if_neg h, decide_eq_false h⟩
theorem gv_snoc (l : List UInt8) (c : UInt8) : gv (l ++ [c]) = gvF (gv l) c := by unfold gv; rw [List.foldl_append]; rfl
theorem gvF_ge (n : Nat) (c : UInt8) : n ≤ gvF n c := by unfold gvF; split <;> omega
theorem fold_ge : ∀ (l : List UInt8) (n : Nat), n ≤ l.foldl gvF n
  | [], _ => Nat.le_refl _
  | c :: l, n => Nat.le_trans (gvF_ge n c) (fold_ge l (gvF n c))
theorem gv_take (l : List UInt8) (k : Nat) : gv (l.take k) ≤ gv l := by
  conv => rhs; rw [← List.take_append_drop k l]
  unfold gv; rw [List.foldl_append]; exact fold_ge _ _
def setIt (W : World) (g : Nat) (s : ByteArray) (k : Nat) : World := { W with heap := W.heap.setIfInBounds g (.stringIter s k) }
section
variable {P : Program} {W : World} {g k : Nat} {s : ByteArray}
theorem run_next_at (hi : W.heap[g]? = some (.stringIter s k)) (ty : TypeId) (h : k < s.size) (ha : (s[k]'h).toNat < 128) :
    (Instr.next (.pointer (some ⟨g, 0, none⟩)) true ty).run P W = .ok (.tuple #[.bool true, .int .i64 k, .int .i32 (s[k]'h).toNat]) (setIt W g s (k + 1)) := by
  simp only [Instr.next, getObj, setObj, Sem.run_bind, Sem.run, hi, Result.andThen, h, if_true, decode_ascii s k h ha]; simp [goInt, setIt]
theorem run_next_at_end (hi : W.heap[g]? = some (.stringIter s k)) (ty : TypeId) (h : ¬ k < s.size) :
    (Instr.next (.pointer (some ⟨g, 0, none⟩)) true ty).run P W = .ok (.tuple #[.bool false]) W := by
  simp [Instr.next, getObj, Sem.run, hi, h]
end
structure It (w : World) (s : ByteArray) (k v : Nat) (W : World) : Prop where
  bel : Below w.heap.size w W
  size : w.heap.size + 2 ≤ W.heap.size
  bk : Bk W w.heap.size 119 (wc3 false v)
  it : W.heap[w.heap.size + 1]? = some (.stringIter s k)
section
variable {w W W' : World} {s : ByteArray} {k v : Nat}
theorem It.call (h : It w s k v W) (hb : Below W.heap.size W W') : It w s k v W' :=
  ⟨h.bel.trans (hb.mono h.bel.size), Nat.le_trans h.size hb.size, h.bk.below hb h.bk.lt, by rw [hb.block _ (by have := h.size; omega)]; exact h.it⟩
theorem It.next (h : It w s k v W) (k' : Nat) : It w s k' v (setIt W (w.heap.size + 1) s k') := by
  have hs := h.size; have hk := h.bk; refine ⟨⟨h.bel.os, h.bel.tape, h.bel.output, by simpa [setIt] using h.bel.size, fun i hi => ?_⟩, by simpa [setIt] using hs, ?_, ?_⟩
  · rw [← h.bel.block i hi]; simp only [setIt, Array.getElem?_setIfInBounds]; rw [if_neg (by omega)]
  · unfold Bk at hk ⊢; simp only [setIt, Array.getElem?_setIfInBounds]; rw [if_neg (by omega)]; exact hk
  · simp only [setIt, Array.getElem?_setIfInBounds]; rw [if_pos True.intro, if_pos (by omega)]
theorem It.set3 (h : It w s k v W) (n : Nat) : It w s k n (((W.setCell ⟨w.heap.size, 0, none⟩ (.bool false)).setCell ⟨w.heap.size, 1, none⟩ (.int .u64 (hi n : Nat))).setCell ⟨w.heap.size, 2, none⟩ (.int .u64 (lo n : Nat))) := by
  have hk := ((h.bk.set_ 0 (.bool false)).set_ 1 (.int .u64 (hi n : Nat))).set_ 2 (.int .u64 (lo n : Nat)); refine ⟨((h.bel.setCell (by simp) _).setCell (by simp) _).setCell (by simp) _, by have := h.size; simpa [World.setCell] using this, ?_, ?_⟩
  · unfold wc3 at hk ⊢
    simpa using hk
  · rw [Below.heap_setCell _ _ _ _ (by simp), Below.heap_setCell _ _ _ _ (by simp), Below.heap_setCell _ _ _ _ (by simp)]; exact h.it
end
theorem addp_any {w : World} {m d : Nat} (h : m + d < 340282366920938463463374607431768211456) (hd : d < 18446744073709551616) :
    Calls Tryz.prog 91 #[wd false m, .agg #[.bool false, .int .u64 0, .int .u64 (d : Nat)]] w fun e w' => e = .returned (wd false (m + d)) ∧ Below w.heap.size w w' := by
  have := add_any (w := w) (a := false) (b := false) (m := m) (n := d) h; rw [wd_small hd] at this
  simpa [adb, adn] using this
set_option maxRecDepth 100000 in
theorem gather_any {w : World} {s : ByteArray} (ha : Asc s) (_hs : s.size ≤ 1000000000000) :
    Calls Tryz.prog 197 #[.string s] w fun e w' => e = .returned (.tuple #[.int .u64 (gN s.data.toList : Nat), .bool (gB s.data.toList)]) ∧ Below w.heap.size w w' := by
  have H0 : Hid (It w s 0 0 ((w.alloc (.cells #[.bool false, .int .u64 0, .int .u64 0] 119)).iter s 0)) := Lib.hid (by
    refine ⟨bel1 _ _ _, by simp [World.iter], ?_, ?_⟩
    · exact (Bk.new w 119 _).alloc _
    · have := World.iter_heap (w.alloc (.cells #[.bool false, .int .u64 0, .int .u64 0] 119)) s 0
      simpa using this)
  go_enter Tryz.func197, Tryz.ntmps197; go_wp2
  go_loopw [9] (fun _ wr => ∃ k v : Nat, k ≤ s.size ∧ v = gv (s.data.toList.take k) ∧ v < 18446744073709551616 ∧ It w s k v wr) (fun _ wr => s.size - wr.iterPos (w.heap.size + 1))
  case atStart => exact ⟨0, 0, Nat.zero_le _, by simp [gv], by omega, H0.out⟩
  case round =>
    obtain ⟨k, v, hk, hv, hvb, hI⟩ := hrel; clear H0
    by_cases hkn : k < s.size
    · have hnx := fun ty => run_next_at (P := Tryz.prog) hI.it ty hkn (ha k hkn); have HT := Lib.hid (take_snocB s k hkn); have HV := Lib.hid hv; have HI := Lib.hid hI; have HN := Lib.hid (hI.next (k + 1)); clear hI hv
      cases hd : dgB s[k]
      · have HD := Lib.hid hd; clear hd
        go_wp2_with fail
        refine (isDigit_any (c := s[k])).mono ?_; rintro e w1 ⟨rfl, rfl⟩; rw [HD.out]; clear hnx
        go_wp2_with fail
        go_roundw
        case rel => exact ⟨k + 1, v, by omega, by rw [HT.out, gv_snoc, ← HV.out]; simp [gvF, HD.out], hvb, HN.out⟩
        case measure =>
          rw [iterPos_of HN.out.it, iterPos_of HI.out.it]; omega
      · have HD := Lib.hid hd; have hx : 48 ≤ s[k].toNat ∧ s[k].toNat ≤ 57 := by simpa [dgB] using hd
        obtain ⟨d, hdd⟩ : ∃ d : Nat, ((s[k].toNat : Nat) : Int) - 48 = (d : Int) := ⟨s[k].toNat - 48, by omega⟩
        have HG := Lib.hid (show gv (s.data.toList.take (k + 1)) = v * 10 + d by
          rw [HT.out, gv_snoc, ← HV.out]; unfold gvF; rw [HD.out]; simp; omega)
        have hd9 : d ≤ 9 := by omega
        have HM := Lib.hid (fun W : World => times_any (w := W) (b := false) (n := v) (k := 10) (by decide) (by omega)); have HA := Lib.hid (fun W : World => addp_any (w := W) (m := v * 10) (d := d) (by omega) (by omega)); have hvd : v * 10 + d < 340282366920938463463374607431768211456 := by omega
        have HVD := Lib.hid hvd; obtain ⟨hx1, hx2⟩ := hx; have hx1' : (48 : Int) ≤ ((s[k].toNat : Nat) : Int) := by omega
        have hx2' : ((s[k].toNat : Nat) : Int) ≤ 57 := by omega
        clear hd hvb hvd
        go_wp2_with fail
        refine (isDigit_any (c := s[k])).mono ?_; rintro e w1 ⟨rfl, rfl⟩; rw [HD.out]; clear hnx; have k1 := HN.out.bk; unfold wc3 at k1; have c0 := k1.cell 0; have c1 := k1.cell 1; have c2 := k1.cell 2; clear k1
        go_wp2_with fail
        refine (HM.out _).mono ?_; rintro e w2 ⟨rfl, hb2⟩
        go_wp2_with fail
        refine (HA.out _).mono ?_; rintro e w3 ⟨rfl, hb3⟩; have hI3 := (HN.out.call hb2).call hb3; clear hb2 hb3 c0 c1 c2; have k1 := hI3.bk; unfold wc3 at k1; have c0 := k1.cell 0; have c1 := k1.cell 1; have c2 := k1.cell 2; have z0 := k1.frozen 0; have z1 := k1.frozen 1; have z2 := k1.frozen 2; have hF := hI3.set3 (v * 10 + d); clear k1 hI3 hx1 hx2 hx1' hx2' hdd HM HA; have HTK := Lib.hid (gv_take s.data.toList (k + 1)); obtain ⟨n, hn⟩ : ∃ n, v * 10 + d = n := ⟨_, rfl⟩
        rw [hn] at hF ⊢; have HG2 := Lib.hid (show gv (s.data.toList.take (k + 1)) = n by rw [← hn]; exact HG.out); have hnb : n < 340282366920938463463374607431768211456 := by rw [← hn]; exact HVD.out
        clear hn HVD
        by_cases hsm : n < 18446744073709551616
        · rw [hi_small hsm, lo_small hsm] at hF; rw [wd_small hsm]; have HF := Lib.hid hF; have HSM := Lib.hid hsm; clear hF hsm hnb
          go_wp2_with fail
          go_roundw
          case rel => exact ⟨k + 1, n, by omega, by rw [HG2.out], HSM.out, HF.out⟩
          case measure =>
            rw [iterPos_of HI.out.it]; have h1 := iterPos_of HF.out.it; have h2 : ∀ a b : Nat, a = k + 1 → b = s.size - a → b < s.size - k := by omega
            exact h2 _ _ h1 rfl
        · have hhi : (0 : Int) < ((hi n : Nat) : Int) := by have := hi_lo n; have := lo_lt n; omega
          have HB := Lib.hid (show ¬ gv s.data.toList < 18446744073709551616 by have := HTK.out; rw [HG2.out] at this; omega); have hbel := hF.bel; rw [wd_parts]; clear hF hsm hnb
          go_wp2_with fail
          go_ret2
          exact ⟨by rw [(gNB_no HB.out).1, (gNB_no HB.out).2]; rfl, hbel⟩
    · have hnx := fun ty => run_next_at_end (P := Tryz.prog) hI.it ty hkn; have hall : s.data.toList.take k = s.data.toList := List.take_of_length_le (by simp; omega); rw [hall] at hv; have k1 := hI.bk; unfold wc3 at k1; rw [hi_small hvb, lo_small hvb] at k1; have c2 := k1.cell 2; have hbel := hI.bel; have HV := Lib.hid hv; have HVB := Lib.hid hvb; clear k1 hI hv hall hvb
      go_wp2_with fail
      go_ret2
      refine ⟨?_, hbel⟩; have h1 : gv s.data.toList < 18446744073709551616 := by rw [← HV.out]; exact HVB.out
      rw [(gNB_yes h1).1, (gNB_yes h1).2, ← HV.out]; rfl
end Go.Proofs.YtngkolcpbgibcaaGreatDoor
namespace Go.Proofs.YtngkolcpbgibcaaGreatDoor
open Go.RowKit
theorem cp_of {w : World} {s p : ByteArray} {r : List UInt8} {b : Bool} (h1 : Lib.trimPrefix s.data.toList p.data.toList = r) (h2 : Lib.hasPrefix s.data.toList p.data.toList = b) :
    Calls Tryz.prog 193 #[.string s, .string p] w fun e w' => e = .returned (.tuple #[.string ⟨r.toArray⟩, .bool b]) ∧ w' = w := by
  have := Tryz.strings_CutPrefix s p w; rw [h1, h2] at this; exact this
theorem hs_of {w : World} {s p : ByteArray} {b : Bool} (hs : s.size ≤ 9223372036854775807) (h2 : Lib.hasSuffix s.data.toList p.data.toList = b) :
    Calls Tryz.prog 198 #[.string s, .string p] w fun e w' => e = .returned (.bool b) ∧ w' = w := by
  have := Tryz.strings_HasSuffix s p w hs; rw [h2] at this; exact this
theorem cut0_no {w : World} {s : ByteArray} (h : Lib.indexByte s.data.toList 46 = -1) :
    Calls Tryz.prog 210 #[.string s, .string ⟨#[46]⟩] w fun e w' => e = .returned (.tuple #[.string s, .string ⟨#[]⟩, .bool false]) ∧ Below w.heap.size w w' := by
  have HI : Hid (∀ W : World, Calls Tryz.prog 218 #[.string s, .string ⟨#[46]⟩] W fun e w' => e = .returned (.int .i64 (-1)) ∧ w' = W) := Lib.hid (fun W => by
    have := Tryz.stringslite_Index_one s 46 W; rw [h] at this
    exact this)
  clear h; go_enter Tryz.func210, Tryz.ntmps210
  go_wp2_with fail
  refine (HI.out _).mono ?_; rintro e w1 ⟨rfl, rfl⟩; go_wp2
  go_ret3
  exact ⟨rfl, Below.refl _ _⟩
theorem cut0_yes {w : World} {s : ByteArray} {i : Nat} (h : Lib.indexByte s.data.toList 46 = i) (hi : i < s.size) (hs : s.size ≤ 1000000000000) :
    Calls Tryz.prog 210 #[.string s, .string ⟨#[46]⟩] w fun e w' => e = .returned (.tuple #[.string (s.extract 0 i), .string (s.extract (i + 1) s.size), .bool true]) ∧ Below w.heap.size w w' := by
  have HI : Hid (∀ W : World, Calls Tryz.prog 218 #[.string s, .string ⟨#[46]⟩] W fun e w' => e = .returned (.int .i64 (i : Int)) ∧ w' = W) := Lib.hid (fun W => by
    have := Tryz.stringslite_Index_one s 46 W; rw [h] at this
    exact this)
  have hi' : (i : Int) + 1 ≤ (s.size : Int) := by omega
  have hw : IntKind.i64.wrap ((i : Int) + 1) = (i : Int) + 1 := IntWalk.i64_in _ (by omega); have h0 : 0 ≤ (i : Int) + 1 := by omega
  have ht : ((i : Int) + 1).toNat = i + 1 := by omega
  have hle : i ≤ s.size := by omega
  have hle1 : i + 1 ≤ s.size := by omega
  clear h; go_enter Tryz.func210, Tryz.ntmps210
  go_wp2_with fail
  refine (HI.out _).mono ?_; rintro e w1 ⟨rfl, rfl⟩; go_wp2
  go_region
  all_goals
    go_wp2
    go_ret3
    exact ⟨rfl, (Below.refl _ _).drew⟩
theorem cut_any {w : World} {s : ByteArray} {v : Value} (h : ∀ W : World, Calls Tryz.prog 210 #[.string s, .string ⟨#[46]⟩] W fun e w' => e = .returned v ∧ Below W.heap.size W w') {a b : ByteArray} {c : Bool} (hv : v = .tuple #[.string a, .string b, .bool c]) :
    Calls Tryz.prog 194 #[.string s, .string ⟨#[46]⟩] w fun e w' => e = .returned (.tuple #[.string a, .string b, .bool c]) ∧ Below w.heap.size w w' := by
  subst hv; have H := Lib.hid h; clear h; go_enter Tryz.func194, Tryz.ntmps194
  go_wp2_with fail
  refine (H.out _).mono ?_; rintro e w1 ⟨rfl, hb⟩; go_wp2
  go_ret3
  exact ⟨rfl, hb⟩
end Go.Proofs.YtngkolcpbgibcaaGreatDoor
namespace Go.Proofs.YtngkolcpbgibcaaGreatDoor
open Go.RowKit Go.Lib
theorem isDigit_high {w : World} {r : Int} (h : 128 ≤ r) : Calls Tryz.prog 211 #[.int .i32 r] w fun e w' => e = .returned (.bool false) ∧ w' = w := by
  have h0' : (48 : Int) ≤ r := by omega
  have h1' : decide (r ≤ 57) = false := decide_eq_false (by omega); clear h; go_enter Tryz.func211, Tryz.ntmps211; go_wp2; go_ret; exact ⟨rfl, rfl⟩
set_option maxRecDepth 100000 in
theorem isDigits_all {w : World} {s : ByteArray} (_hs : s.size ≤ 1000000000000) :
    Calls Tryz.prog 196 #[.string s] w fun e w' => e = .returned (.bool (dgsB s)) ∧ Below w.heap.size w w' := by
  go_enter Tryz.func196, Tryz.ntmps196; go_wp2
  go_loopw [7] (fun _ wr => ∃ k : Nat, k ≤ s.size ∧ wr = w.iter s k ∧ (s.data.toList.take k).all dgB = true) (fun _ wr => s.size - wr.iterPos w.heap.size)
  case atStart => exact ⟨0, Nat.zero_le _, rfl, by simp⟩
  case round =>
    obtain ⟨k, hk, rfl, hall⟩ := hrel
    by_cases hkn : k < s.size
    · by_cases hlo : (s[k]'hkn).toNat < 128
      · have hnx := fun ty => run_next_ascii (P := Tryz.prog) w s k ty hkn hlo; have HT := Lib.hid (take_snocB s k hkn); have HA := Lib.hid hall; clear hlo
        cases hd : dgB s[k]
        · have HD := Lib.hid hd; have HV := Lib.hid (dgs_stop s k hkn hd); clear hd hall
          go_wp2_with fail
          refine (isDigit_any (c := s[k])).mono ?_; rintro e w1 ⟨rfl, rfl⟩; rw [HD.out]; clear hnx
          go_wp2_with fail
          go_ret; exact ⟨by rw [HV.out]; rfl, bel0 _ _⟩
        · have HD := Lib.hid hd; clear hd hall
          go_wp2_with fail
          refine (isDigit_any (c := s[k])).mono ?_; rintro e w1 ⟨rfl, rfl⟩; rw [HD.out]; clear hnx
          go_wp2_with fail
          go_roundw
          case rel => exact ⟨k + 1, by omega, rfl, by rw [HT.out]; simp [HA.out, HD.out]⟩
          case measure =>
            simp; omega
      · have hnx := fun ty => run_next_any (P := Tryz.prog) w s k ty hkn; have hhi := (decode_high s k hkn (by omega)).1
        have hd : dgB s[k] = false := by
          unfold dgB; rw [Bool.and_eq_false_iff]
          right
          exact decide_eq_false (by omega)
        have HV := Lib.hid (dgs_stop s k hkn hd); have HI := Lib.hid (fun W : World => isDigit_high (w := W) (r := ((Utf8.decode s k).1 : Int)) (by omega)); clear hd hall hhi hlo; generalize (Utf8.decode s k).1 = r at *; generalize (Utf8.decode s k).2 = q at *
        go_wp2_with fail
        refine (HI.out _).mono ?_; rintro e w1 ⟨rfl, rfl⟩; clear hnx
        go_wp2_with fail
        go_ret; exact ⟨by rw [HV.out]; rfl, bel0 _ _⟩
    · have hnx := fun ty => run_next_end (P := Tryz.prog) w s k ty hkn; have HV := Lib.hid (dgs_all s k hkn hall); clear hall
      go_wp2_with fail
      go_ret; exact ⟨by rw [HV.out, ← ByteArray.toList_eq]; rfl, bel0 _ _⟩
theorem isDigits_l {w : World} {l : List UInt8} (hs : l.length ≤ 1000000000000) :
    Calls Tryz.prog 196 #[.string ⟨l.toArray⟩] w fun e w' => e = .returned (.bool (digsB l)) ∧ Below w.heap.size w w' :=
  isDigits_all (s := ⟨l.toArray⟩) (by simpa [ByteArray.size] using hs)
set_option maxRecDepth 100000 in
theorem whole_w {w : World} {c : UInt8} {l : List UInt8} (hs : l.length ≤ 100000000000) (h1 : ¬ c :: l = [48]) {b : Bool} (hd : digsB (c :: l) = true) (hb : ((((c.toNat : Nat) : Int) != 48)) = b) :
    Calls Tryz.prog 195 #[.string ⟨(c :: l).toArray⟩] w fun e w' => e = .returned (.bool b) ∧ Below w.heap.size w w' := by
  have HD : Hid (∀ W : World, Calls Tryz.prog 196 #[.string ⟨(c :: l).toArray⟩] W fun e w' => e = .returned (.bool true) ∧ Below W.heap.size W w') := Lib.hid (fun W => by
    have := isDigits_l (w := W) (l := c :: l) (by simp; omega); rw [hd] at this
    exact this)
  have h2 : ∀ w : World, (Instr.index 9 (.string ⟨(c :: l).toArray⟩) (.int .i64 0)).run Tryz.prog w = .ok (.int .u8 (c.toNat : Nat)) w := fun w => rfl
  have h3 : (ByteArray.toList ⟨(c :: l).toArray⟩ == [48]) = false := by
    rw [ByteArray.toList_eq]
    simpa using h1
  clear hd h1; obtain ⟨s, hsq⟩ : ∃ s : ByteArray, (⟨(c :: l).toArray⟩ : ByteArray) = s := ⟨_, rfl⟩
  rw [hsq] at HD h2 h3 ⊢; clear hsq; go_enter Tryz.func195, Tryz.ntmps195
  go_wp2_with fail
  refine (HD.out _).mono ?_; rintro e w1 ⟨rfl, hbl⟩; go_wp2; go_ret; exact ⟨rfl, hbl⟩
theorem whole_n {w : World} {l : List UInt8} (hs : l.length ≤ 100000000000) (hd : digsB l = false) :
    Calls Tryz.prog 195 #[.string ⟨l.toArray⟩] w fun e w' => e = .returned (.bool false) ∧ Below w.heap.size w w' := by
  have HD : Hid (∀ W : World, Calls Tryz.prog 196 #[.string ⟨l.toArray⟩] W fun e w' => e = .returned (.bool false) ∧ Below W.heap.size W w') := Lib.hid (fun W => by
    have := isDigits_l (w := W) (l := l) (by omega); rw [hd] at this
    exact this)
  clear hd; go_enter Tryz.func195, Tryz.ntmps195
  go_wp2_with fail
  refine (HD.out _).mono ?_; rintro e w1 ⟨rfl, hbl⟩; go_wp2; go_ret; exact ⟨rfl, hbl⟩
theorem whole_0 {w : World} :
    Calls Tryz.prog 195 #[.string ⟨#[48]⟩] w fun e w' => e = .returned (.bool true) ∧ Below w.heap.size w w' := by
  have HD : Hid (∀ W : World, Calls Tryz.prog 196 #[.string ⟨#[48]⟩] W fun e w' => e = .returned (.bool true) ∧ Below W.heap.size W w') := Lib.hid (fun W => isDigits_l (w := W) (l := [48]) (by simp)); go_enter Tryz.func195, Tryz.ntmps195
  go_wp2_with fail
  refine (HD.out _).mono ?_; rintro e w1 ⟨rfl, hbl⟩; go_wp2; go_ret; exact ⟨rfl, hbl⟩
theorem isWhole_l {w : World} {l : List UInt8} (hs : l.length ≤ 100000000000) :
    Calls Tryz.prog 195 #[.string ⟨l.toArray⟩] w fun e w' => e = .returned (.bool (wholeB l)) ∧ Below w.heap.size w w' := by
  cases hd : digsB l
  · have : wholeB l = false := by unfold wholeB; rw [hd]; rfl
    rw [this]; exact whole_n hs hd
  · by_cases h48 : l = [48]
    · subst h48; exact whole_0
    · rcases l with _ | ⟨c, l⟩
      · cases hd
      · have hw : wholeB (c :: l) = (((c.toNat : Nat) : Int) != 48) := by
          unfold wholeB; rw [hd, Bool.true_and, show (c :: l == [48]) = false by simpa using h48, Bool.false_or, List.head?_cons]
          by_cases hc : c = 48
          · subst hc; rfl
          · have h1 : ¬ ((c.toNat : Nat) : Int) = 48 := fun h => hc (UInt8.toNat_inj.1 (by show c.toNat = 48; omega)); rw [show (some c != some (48 : UInt8)) = true from bne_iff_ne.2 fun h => hc (Option.some.inj h), show ((((c.toNat : Nat) : Int) != 48)) = true from bne_iff_ne.2 h1]
        rw [hw]; exact whole_w (by simp at hs; omega) h48 hd rfl
end Go.Proofs.YtngkolcpbgibcaaGreatDoor
namespace Go.Proofs.YtngkolcpbgibcaaGreatDoor
open Go.RowKit
set_option maxRecDepth 100000 in
theorem pw_neg0_n {w : World} {r u t : ByteArray} {b : Bool}
    (K1 : ∀ W : World, Calls Tryz.prog 193 #[.string ⟨#[45, 48]⟩, .string ⟨#[45]⟩] W fun e w' => e = .returned (.tuple #[.string r, .bool b]) ∧ w' = W)
    (K2 : ∀ W : World, Calls Tryz.prog 194 #[.string r, .string ⟨#[46]⟩] W fun e w' => e = .returned (.tuple #[.string u, .string t, .bool false]) ∧ Below W.heap.size W w')
    : Calls Tryz.prog 172 #[.string ⟨#[45, 48]⟩] w fun e w' => e = .returned (.tuple #[.agg #[.int .i64 0, .int .i64 0], .int .i64 2]) ∧ Below w.heap.size w w' := by
  have H1 := Lib.hid K1; have H2 := Lib.hid K2; clear K1 K2; have HB := Lib.hid (sb1 w 30 #[.int .i64 0, .int .i64 0]); go_enter Tryz.func172, Tryz.ntmps172
  go_wp2_with fail
  refine (H1.out _).mono ?_; rintro e w1 ⟨rfl, rfl⟩
  go_wp2_with fail
  refine (H2.out _).mono ?_; rintro e w1 ⟨rfl, hb⟩; have HB1 := Lib.hid (HB.out.call hb); clear hb HB; have HB := HB1; clear HB1; have k1 := HB.out.bk _ (.head _); have hbel := HB.out.bel; have c0 := k1.cell 0; have c1 := k1.cell 1; have z0 := k1.frozen 0; have z1 := k1.frozen 1; clear k1 HB; go_wp2; refine bodyPost_ret (v := .tuple #[.agg #[.int .i64 0, .int .i64 0], .int .i64 2]) ?_ rfl ⟨rfl, (hbel.setCell (by simp) _).setCell (by simp) _⟩; simp [results, Tryz.results172, go_sem, c0, c1]
set_option maxRecDepth 100000 in
theorem pw_neg0_p {w : World} {r u t : ByteArray} {b : Bool}
    (K1 : ∀ W : World, Calls Tryz.prog 193 #[.string ⟨#[45, 48]⟩, .string ⟨#[45]⟩] W fun e w' => e = .returned (.tuple #[.string r, .bool b]) ∧ w' = W)
    (K2 : ∀ W : World, Calls Tryz.prog 194 #[.string r, .string ⟨#[46]⟩] W fun e w' => e = .returned (.tuple #[.string u, .string t, .bool true]) ∧ Below W.heap.size W w')
    : Calls Tryz.prog 172 #[.string ⟨#[45, 48]⟩] w fun e w' => e = .returned (.tuple #[.agg #[.int .i64 0, .int .i64 0], .int .i64 2]) ∧ Below w.heap.size w w' := by
  have H1 := Lib.hid K1; have H2 := Lib.hid K2; clear K1 K2; have HB := Lib.hid (sb1 w 30 #[.int .i64 0, .int .i64 0]); go_enter Tryz.func172, Tryz.ntmps172
  go_wp2_with fail
  refine (H1.out _).mono ?_; rintro e w1 ⟨rfl, rfl⟩
  go_wp2_with fail
  refine (H2.out _).mono ?_; rintro e w1 ⟨rfl, hb⟩; have HB1 := Lib.hid (HB.out.call hb); clear hb HB; have HB := HB1; clear HB1; have k1 := HB.out.bk _ (.head _); have hbel := HB.out.bel; have c0 := k1.cell 0; have c1 := k1.cell 1; have z0 := k1.frozen 0; have z1 := k1.frozen 1; clear k1 HB; go_wp2; refine bodyPost_ret (v := .tuple #[.agg #[.int .i64 0, .int .i64 0], .int .i64 2]) ?_ rfl ⟨rfl, (hbel.setCell (by simp) _).setCell (by simp) _⟩; simp [results, Tryz.results172, go_sem, c0, c1]
set_option maxRecDepth 100000 in
theorem pw_whole_n {w : World} {s r u t : ByteArray} {b : Bool}
    (hs : (s.toList == [45, 48]) = false)
    (K1 : ∀ W : World, Calls Tryz.prog 193 #[.string s, .string ⟨#[45]⟩] W fun e w' => e = .returned (.tuple #[.string r, .bool b]) ∧ w' = W)
    (K2 : ∀ W : World, Calls Tryz.prog 194 #[.string r, .string ⟨#[46]⟩] W fun e w' => e = .returned (.tuple #[.string u, .string t, .bool false]) ∧ Below W.heap.size W w')
    (K3 : ∀ W : World, Calls Tryz.prog 195 #[.string u] W fun e w' => e = .returned (.bool false) ∧ Below W.heap.size W w')
    : Calls Tryz.prog 172 #[.string s] w fun e w' => e = .returned (.tuple #[.agg #[.int .i64 0, .int .i64 0], .int .i64 2]) ∧ Below w.heap.size w w' := by
  have H1 := Lib.hid K1; have H2 := Lib.hid K2; have H3 := Lib.hid K3; clear K1 K2 K3; have HB := Lib.hid (sb1 w 30 #[.int .i64 0, .int .i64 0]); go_enter Tryz.func172, Tryz.ntmps172
  go_wp2_with fail
  refine (H1.out _).mono ?_; rintro e w1 ⟨rfl, rfl⟩
  go_wp2_with fail
  refine (H2.out _).mono ?_; rintro e w1 ⟨rfl, hb⟩; have HB1 := Lib.hid (HB.out.call hb); clear hb HB; have HB := HB1; clear HB1
  go_wp2_with fail
  refine (H3.out _).mono ?_; rintro e w1 ⟨rfl, hb⟩; have HB1 := Lib.hid (HB.out.call hb); clear hb HB; have HB := HB1; clear HB1; have k1 := HB.out.bk _ (.head _); have hbel := HB.out.bel; have c0 := k1.cell 0; have c1 := k1.cell 1; have z0 := k1.frozen 0; have z1 := k1.frozen 1; clear k1 HB; go_wp2; refine bodyPost_ret (v := .tuple #[.agg #[.int .i64 0, .int .i64 0], .int .i64 2]) ?_ rfl ⟨rfl, (hbel.setCell (by simp) _).setCell (by simp) _⟩; simp [results, Tryz.results172, go_sem, c0, c1]
set_option maxRecDepth 100000 in
theorem pw_great_n {w : World} {s r u t : ByteArray} {b : Bool} {n : Nat}
    (hs : (s.toList == [45, 48]) = false)
    (K1 : ∀ W : World, Calls Tryz.prog 193 #[.string s, .string ⟨#[45]⟩] W fun e w' => e = .returned (.tuple #[.string r, .bool b]) ∧ w' = W)
    (K2 : ∀ W : World, Calls Tryz.prog 194 #[.string r, .string ⟨#[46]⟩] W fun e w' => e = .returned (.tuple #[.string u, .string t, .bool false]) ∧ Below W.heap.size W w')
    (K3 : ∀ W : World, Calls Tryz.prog 195 #[.string u] W fun e w' => e = .returned (.bool true) ∧ Below W.heap.size W w')
    (K5 : ∀ W : World, Calls Tryz.prog 197 #[.string r] W fun e w' => e = .returned (.tuple #[.int .u64 (n : Nat), .bool false]) ∧ Below W.heap.size W w')
    : Calls Tryz.prog 172 #[.string s] w fun e w' => e = .returned (.tuple #[.agg #[.int .i64 0, .int .i64 0], .int .i64 8]) ∧ Below w.heap.size w w' := by
  have H1 := Lib.hid K1; have H2 := Lib.hid K2; have H3 := Lib.hid K3; have H5 := Lib.hid K5; clear K1 K2 K3 K5; have HB := Lib.hid (sb1 w 30 #[.int .i64 0, .int .i64 0]); go_enter Tryz.func172, Tryz.ntmps172
  go_wp2_with fail
  refine (H1.out _).mono ?_; rintro e w1 ⟨rfl, rfl⟩
  go_wp2_with fail
  refine (H2.out _).mono ?_; rintro e w1 ⟨rfl, hb⟩; have HB1 := Lib.hid (HB.out.call hb); clear hb HB; have HB := HB1; clear HB1
  go_wp2_with fail
  refine (H3.out _).mono ?_; rintro e w1 ⟨rfl, hb⟩; have HB1 := Lib.hid (HB.out.call hb); clear hb HB; have HB := HB1; clear HB1
  go_wp2_with fail
  refine (H5.out _).mono ?_; rintro e w1 ⟨rfl, hb⟩; have HB1 := Lib.hid (HB.out.call hb); clear hb HB; have HB := HB1; clear HB1; have k1 := HB.out.bk _ (.head _); have hbel := HB.out.bel; have c0 := k1.cell 0; have c1 := k1.cell 1; have z0 := k1.frozen 0; have z1 := k1.frozen 1; clear k1 HB; go_wp2; refine bodyPost_ret (v := .tuple #[.agg #[.int .i64 0, .int .i64 0], .int .i64 8]) ?_ rfl ⟨rfl, (hbel.setCell (by simp) _).setCell (by simp) _⟩; simp [results, Tryz.results172, go_sem, c0, c1]
set_option maxRecDepth 100000 in
theorem pw_wide_n {w : World} {s r u t : ByteArray} {b : Bool} {n : Nat} {m : Int}
    (hs : (s.toList == [45, 48]) = false)
    (K1 : ∀ W : World, Calls Tryz.prog 193 #[.string s, .string ⟨#[45]⟩] W fun e w' => e = .returned (.tuple #[.string r, .bool b]) ∧ w' = W)
    (K2 : ∀ W : World, Calls Tryz.prog 194 #[.string r, .string ⟨#[46]⟩] W fun e w' => e = .returned (.tuple #[.string u, .string t, .bool false]) ∧ Below W.heap.size W w')
    (K3 : ∀ W : World, Calls Tryz.prog 195 #[.string u] W fun e w' => e = .returned (.bool true) ∧ Below W.heap.size W w')
    (K5 : ∀ W : World, Calls Tryz.prog 197 #[.string r] W fun e w' => e = .returned (.tuple #[.int .u64 (n : Nat), .bool true]) ∧ Below W.heap.size W w')
    (K6 : ∀ W : World, Calls Tryz.prog 162 #[.agg #[.bool b, .int .u64 0, .int .u64 (n : Nat)]] W fun e w' => e = .returned (.tuple #[.int .i64 m, .bool false]) ∧ Below W.heap.size W w')
    : Calls Tryz.prog 172 #[.string s] w fun e w' => e = .returned (.tuple #[.agg #[.int .i64 0, .int .i64 0], .int .i64 8]) ∧ Below w.heap.size w w' := by
  have H1 := Lib.hid K1; have H2 := Lib.hid K2; have H3 := Lib.hid K3; have H5 := Lib.hid K5; have H6 := Lib.hid K6; clear K1 K2 K3 K5 K6; have HB := Lib.hid (sb1 w 30 #[.int .i64 0, .int .i64 0]); go_enter Tryz.func172, Tryz.ntmps172
  go_wp2_with fail
  refine (H1.out _).mono ?_; rintro e w1 ⟨rfl, rfl⟩
  go_wp2_with fail
  refine (H2.out _).mono ?_; rintro e w1 ⟨rfl, hb⟩; have HB1 := Lib.hid (HB.out.call hb); clear hb HB; have HB := HB1; clear HB1
  go_wp2_with fail
  refine (H3.out _).mono ?_; rintro e w1 ⟨rfl, hb⟩; have HB1 := Lib.hid (HB.out.call hb); clear hb HB; have HB := HB1; clear HB1
  go_wp2_with fail
  refine (H5.out _).mono ?_; rintro e w1 ⟨rfl, hb⟩; have HB1 := Lib.hid (HB.out.call hb); clear hb HB; have HB := HB1; clear HB1
  go_wp2_with fail
  refine (H6.out _).mono ?_; rintro e w1 ⟨rfl, hb⟩; have HB1 := Lib.hid (HB.out.call hb); clear hb HB; have HB := HB1; clear HB1; have k1 := HB.out.bk _ (.head _); have hbel := HB.out.bel; have c0 := k1.cell 0; have c1 := k1.cell 1; have z0 := k1.frozen 0; have z1 := k1.frozen 1; clear k1 HB; go_wp2; refine bodyPost_ret (v := .tuple #[.agg #[.int .i64 0, .int .i64 0], .int .i64 8]) ?_ rfl ⟨rfl, (hbel.setCell (by simp) _).setCell (by simp) _⟩; simp [results, Tryz.results172, go_sem, c0, c1]
set_option maxRecDepth 100000 in
theorem pw_long_n {w : World} {s r u t : ByteArray} {b : Bool} {n : Nat} {m : Int}
    (hs : (s.toList == [45, 48]) = false)
    (K1 : ∀ W : World, Calls Tryz.prog 193 #[.string s, .string ⟨#[45]⟩] W fun e w' => e = .returned (.tuple #[.string r, .bool b]) ∧ w' = W)
    (K2 : ∀ W : World, Calls Tryz.prog 194 #[.string r, .string ⟨#[46]⟩] W fun e w' => e = .returned (.tuple #[.string u, .string t, .bool false]) ∧ Below W.heap.size W w')
    (K3 : ∀ W : World, Calls Tryz.prog 195 #[.string u] W fun e w' => e = .returned (.bool true) ∧ Below W.heap.size W w')
    (K5 : ∀ W : World, Calls Tryz.prog 197 #[.string r] W fun e w' => e = .returned (.tuple #[.int .u64 (n : Nat), .bool true]) ∧ Below W.heap.size W w')
    (K6 : ∀ W : World, Calls Tryz.prog 162 #[.agg #[.bool b, .int .u64 0, .int .u64 (n : Nat)]] W fun e w' => e = .returned (.tuple #[.int .i64 m, .bool true]) ∧ Below W.heap.size W w')
    (hbig : 9 < t.size)
    : Calls Tryz.prog 172 #[.string s] w fun e w' => e = .returned (.tuple #[.agg #[.int .i64 0, .int .i64 0], .int .i64 1]) ∧ Below w.heap.size w w' := by
  have hbig' : (9 : Int) < ((t.size : Nat) : Int) := by omega
  clear hbig; have H1 := Lib.hid K1; have H2 := Lib.hid K2; have H3 := Lib.hid K3; have H5 := Lib.hid K5; have H6 := Lib.hid K6; clear K1 K2 K3 K5 K6; have HB := Lib.hid (sb1 w 30 #[.int .i64 0, .int .i64 0]); go_enter Tryz.func172, Tryz.ntmps172
  go_wp2_with fail
  refine (H1.out _).mono ?_; rintro e w1 ⟨rfl, rfl⟩
  go_wp2_with fail
  refine (H2.out _).mono ?_; rintro e w1 ⟨rfl, hb⟩; have HB1 := Lib.hid (HB.out.call hb); clear hb HB; have HB := HB1; clear HB1
  go_wp2_with fail
  refine (H3.out _).mono ?_; rintro e w1 ⟨rfl, hb⟩; have HB1 := Lib.hid (HB.out.call hb); clear hb HB; have HB := HB1; clear HB1
  go_wp2_with fail
  refine (H5.out _).mono ?_; rintro e w1 ⟨rfl, hb⟩; have HB1 := Lib.hid (HB.out.call hb); clear hb HB; have HB := HB1; clear HB1
  go_wp2_with fail
  refine (H6.out _).mono ?_; rintro e w1 ⟨rfl, hb⟩; have HB1 := Lib.hid (HB.out.call hb); clear hb HB; have HB := HB1; clear HB1; have k1 := HB.out.bk _ (.head _); have hbel := HB.out.bel; have c0 := k1.cell 0; have c1 := k1.cell 1; have z0 := k1.frozen 0; have z1 := k1.frozen 1; clear k1 HB; go_wp2; refine bodyPost_ret (v := .tuple #[.agg #[.int .i64 0, .int .i64 0], .int .i64 1]) ?_ rfl ⟨rfl, (hbel.setCell (by simp) _).setCell (by simp) _⟩; simp [results, Tryz.results172, go_sem, c0, c1]
set_option maxRecDepth 100000 in
theorem pw_nought_n {w : World} {s r u t : ByteArray} {b : Bool} {n : Nat} {m : Int}
    (hs : (s.toList == [45, 48]) = false)
    (K1 : ∀ W : World, Calls Tryz.prog 193 #[.string s, .string ⟨#[45]⟩] W fun e w' => e = .returned (.tuple #[.string r, .bool b]) ∧ w' = W)
    (K2 : ∀ W : World, Calls Tryz.prog 194 #[.string r, .string ⟨#[46]⟩] W fun e w' => e = .returned (.tuple #[.string u, .string t, .bool false]) ∧ Below W.heap.size W w')
    (K3 : ∀ W : World, Calls Tryz.prog 195 #[.string u] W fun e w' => e = .returned (.bool true) ∧ Below W.heap.size W w')
    (K5 : ∀ W : World, Calls Tryz.prog 197 #[.string r] W fun e w' => e = .returned (.tuple #[.int .u64 (n : Nat), .bool true]) ∧ Below W.heap.size W w')
    (K6 : ∀ W : World, Calls Tryz.prog 162 #[.agg #[.bool b, .int .u64 0, .int .u64 (n : Nat)]] W fun e w' => e = .returned (.tuple #[.int .i64 m, .bool true]) ∧ Below W.heap.size W w')
    (K7 : ∀ W : World, Calls Tryz.prog 198 #[.string t, .string ⟨#[48]⟩] W fun e w' => e = .returned (.bool true) ∧ w' = W)
    (hbig : t.size ≤ 9)
    : Calls Tryz.prog 172 #[.string s] w fun e w' => e = .returned (.tuple #[.agg #[.int .i64 0, .int .i64 0], .int .i64 1]) ∧ Below w.heap.size w w' := by
  have hbig' : ¬ (9 : Int) < ((t.size : Nat) : Int) := by omega
  clear hbig; have H1 := Lib.hid K1; have H2 := Lib.hid K2; have H3 := Lib.hid K3; have H5 := Lib.hid K5; have H6 := Lib.hid K6; have H7 := Lib.hid K7; clear K1 K2 K3 K5 K6 K7; have HB := Lib.hid (sb1 w 30 #[.int .i64 0, .int .i64 0]); go_enter Tryz.func172, Tryz.ntmps172
  go_wp2_with fail
  refine (H1.out _).mono ?_; rintro e w1 ⟨rfl, rfl⟩
  go_wp2_with fail
  refine (H2.out _).mono ?_; rintro e w1 ⟨rfl, hb⟩; have HB1 := Lib.hid (HB.out.call hb); clear hb HB; have HB := HB1; clear HB1
  go_wp2_with fail
  refine (H3.out _).mono ?_; rintro e w1 ⟨rfl, hb⟩; have HB1 := Lib.hid (HB.out.call hb); clear hb HB; have HB := HB1; clear HB1
  go_wp2_with fail
  refine (H5.out _).mono ?_; rintro e w1 ⟨rfl, hb⟩; have HB1 := Lib.hid (HB.out.call hb); clear hb HB; have HB := HB1; clear HB1
  go_wp2_with fail
  refine (H6.out _).mono ?_; rintro e w1 ⟨rfl, hb⟩; have HB1 := Lib.hid (HB.out.call hb); clear hb HB; have HB := HB1; clear HB1
  go_wp2_with fail
  refine (H7.out _).mono ?_; rintro e w1 ⟨rfl, rfl⟩; have k1 := HB.out.bk _ (.head _); have hbel := HB.out.bel; have c0 := k1.cell 0; have c1 := k1.cell 1; have z0 := k1.frozen 0; have z1 := k1.frozen 1; clear k1 HB; go_wp2; refine bodyPost_ret (v := .tuple #[.agg #[.int .i64 0, .int .i64 0], .int .i64 1]) ?_ rfl ⟨rfl, (hbel.setCell (by simp) _).setCell (by simp) _⟩; simp [results, Tryz.results172, go_sem, c0, c1]
set_option maxRecDepth 100000 in
theorem pw_good_n {w : World} {s r u t : ByteArray} {b : Bool} {n : Nat} {m : Int}
    (hs : (s.toList == [45, 48]) = false)
    (K1 : ∀ W : World, Calls Tryz.prog 193 #[.string s, .string ⟨#[45]⟩] W fun e w' => e = .returned (.tuple #[.string r, .bool b]) ∧ w' = W)
    (K2 : ∀ W : World, Calls Tryz.prog 194 #[.string r, .string ⟨#[46]⟩] W fun e w' => e = .returned (.tuple #[.string u, .string t, .bool false]) ∧ Below W.heap.size W w')
    (K3 : ∀ W : World, Calls Tryz.prog 195 #[.string u] W fun e w' => e = .returned (.bool true) ∧ Below W.heap.size W w')
    (K5 : ∀ W : World, Calls Tryz.prog 197 #[.string r] W fun e w' => e = .returned (.tuple #[.int .u64 (n : Nat), .bool true]) ∧ Below W.heap.size W w')
    (K6 : ∀ W : World, Calls Tryz.prog 162 #[.agg #[.bool b, .int .u64 0, .int .u64 (n : Nat)]] W fun e w' => e = .returned (.tuple #[.int .i64 m, .bool true]) ∧ Below W.heap.size W w')
    (K7 : ∀ W : World, Calls Tryz.prog 198 #[.string t, .string ⟨#[48]⟩] W fun e w' => e = .returned (.bool false) ∧ w' = W)
    (hbig : t.size ≤ 9)
    : Calls Tryz.prog 172 #[.string s] w fun e w' => e = .returned (.tuple #[.agg #[.int .i64 m, .int .i64 (t.size : Nat)], .int .i64 0]) ∧ Below w.heap.size w w' := by
  have hbig' : ¬ (9 : Int) < ((t.size : Nat) : Int) := by omega
  clear hbig; have H1 := Lib.hid K1; have H2 := Lib.hid K2; have H3 := Lib.hid K3; have H5 := Lib.hid K5; have H6 := Lib.hid K6; have H7 := Lib.hid K7; clear K1 K2 K3 K5 K6 K7; have HB := Lib.hid (sb1 w 30 #[.int .i64 0, .int .i64 0]); go_enter Tryz.func172, Tryz.ntmps172
  go_wp2_with fail
  refine (H1.out _).mono ?_; rintro e w1 ⟨rfl, rfl⟩
  go_wp2_with fail
  refine (H2.out _).mono ?_; rintro e w1 ⟨rfl, hb⟩; have HB1 := Lib.hid (HB.out.call hb); clear hb HB; have HB := HB1; clear HB1
  go_wp2_with fail
  refine (H3.out _).mono ?_; rintro e w1 ⟨rfl, hb⟩; have HB1 := Lib.hid (HB.out.call hb); clear hb HB; have HB := HB1; clear HB1
  go_wp2_with fail
  refine (H5.out _).mono ?_; rintro e w1 ⟨rfl, hb⟩; have HB1 := Lib.hid (HB.out.call hb); clear hb HB; have HB := HB1; clear HB1
  go_wp2_with fail
  refine (H6.out _).mono ?_; rintro e w1 ⟨rfl, hb⟩; have HB1 := Lib.hid (HB.out.call hb); clear hb HB; have HB := HB1; clear HB1
  go_wp2_with fail
  refine (H7.out _).mono ?_; rintro e w1 ⟨rfl, rfl⟩; have k1 := HB.out.bk _ (.head _); have hbel := HB.out.bel; have c0 := k1.cell 0; have c1 := k1.cell 1; have z0 := k1.frozen 0; have z1 := k1.frozen 1; clear k1 HB; go_wp2; refine bodyPost_ret (v := .tuple #[.agg #[.int .i64 m, .int .i64 (t.size : Nat)], .int .i64 0]) ?_ rfl ⟨rfl, (hbel.setCell (by simp) _).setCell (by simp) _⟩; simp [results, Tryz.results172, go_sem, c0, c1]
set_option maxRecDepth 100000 in
theorem pw_whole_p {w : World} {s r u t : ByteArray} {b : Bool}
    (hs : (s.toList == [45, 48]) = false)
    (K1 : ∀ W : World, Calls Tryz.prog 193 #[.string s, .string ⟨#[45]⟩] W fun e w' => e = .returned (.tuple #[.string r, .bool b]) ∧ w' = W)
    (K2 : ∀ W : World, Calls Tryz.prog 194 #[.string r, .string ⟨#[46]⟩] W fun e w' => e = .returned (.tuple #[.string u, .string t, .bool true]) ∧ Below W.heap.size W w')
    (K3 : ∀ W : World, Calls Tryz.prog 195 #[.string u] W fun e w' => e = .returned (.bool false) ∧ Below W.heap.size W w')
    : Calls Tryz.prog 172 #[.string s] w fun e w' => e = .returned (.tuple #[.agg #[.int .i64 0, .int .i64 0], .int .i64 2]) ∧ Below w.heap.size w w' := by
  have H1 := Lib.hid K1; have H2 := Lib.hid K2; have H3 := Lib.hid K3; clear K1 K2 K3; have HB := Lib.hid (sb1 w 30 #[.int .i64 0, .int .i64 0]); go_enter Tryz.func172, Tryz.ntmps172
  go_wp2_with fail
  refine (H1.out _).mono ?_; rintro e w1 ⟨rfl, rfl⟩
  go_wp2_with fail
  refine (H2.out _).mono ?_; rintro e w1 ⟨rfl, hb⟩; have HB1 := Lib.hid (HB.out.call hb); clear hb HB; have HB := HB1; clear HB1
  go_wp2_with fail
  refine (H3.out _).mono ?_; rintro e w1 ⟨rfl, hb⟩; have HB1 := Lib.hid (HB.out.call hb); clear hb HB; have HB := HB1; clear HB1; have k1 := HB.out.bk _ (.head _); have hbel := HB.out.bel; have c0 := k1.cell 0; have c1 := k1.cell 1; have z0 := k1.frozen 0; have z1 := k1.frozen 1; clear k1 HB; go_wp2; refine bodyPost_ret (v := .tuple #[.agg #[.int .i64 0, .int .i64 0], .int .i64 2]) ?_ rfl ⟨rfl, (hbel.setCell (by simp) _).setCell (by simp) _⟩; simp [results, Tryz.results172, go_sem, c0, c1]
set_option maxRecDepth 100000 in
theorem pw_digits {w : World} {s r u t : ByteArray} {b : Bool}
    (hs : (s.toList == [45, 48]) = false)
    (K1 : ∀ W : World, Calls Tryz.prog 193 #[.string s, .string ⟨#[45]⟩] W fun e w' => e = .returned (.tuple #[.string r, .bool b]) ∧ w' = W)
    (K2 : ∀ W : World, Calls Tryz.prog 194 #[.string r, .string ⟨#[46]⟩] W fun e w' => e = .returned (.tuple #[.string u, .string t, .bool true]) ∧ Below W.heap.size W w')
    (K3 : ∀ W : World, Calls Tryz.prog 195 #[.string u] W fun e w' => e = .returned (.bool true) ∧ Below W.heap.size W w')
    (K4 : ∀ W : World, Calls Tryz.prog 196 #[.string t] W fun e w' => e = .returned (.bool false) ∧ Below W.heap.size W w')
    : Calls Tryz.prog 172 #[.string s] w fun e w' => e = .returned (.tuple #[.agg #[.int .i64 0, .int .i64 0], .int .i64 2]) ∧ Below w.heap.size w w' := by
  have H1 := Lib.hid K1; have H2 := Lib.hid K2; have H3 := Lib.hid K3; have H4 := Lib.hid K4; clear K1 K2 K3 K4; have HB := Lib.hid (sb1 w 30 #[.int .i64 0, .int .i64 0]); go_enter Tryz.func172, Tryz.ntmps172
  go_wp2_with fail
  refine (H1.out _).mono ?_; rintro e w1 ⟨rfl, rfl⟩
  go_wp2_with fail
  refine (H2.out _).mono ?_; rintro e w1 ⟨rfl, hb⟩; have HB1 := Lib.hid (HB.out.call hb); clear hb HB; have HB := HB1; clear HB1
  go_wp2_with fail
  refine (H3.out _).mono ?_; rintro e w1 ⟨rfl, hb⟩; have HB1 := Lib.hid (HB.out.call hb); clear hb HB; have HB := HB1; clear HB1
  go_wp2_with fail
  refine (H4.out _).mono ?_; rintro e w1 ⟨rfl, hb⟩; have HB1 := Lib.hid (HB.out.call hb); clear hb HB; have HB := HB1; clear HB1; have k1 := HB.out.bk _ (.head _); have hbel := HB.out.bel; have c0 := k1.cell 0; have c1 := k1.cell 1; have z0 := k1.frozen 0; have z1 := k1.frozen 1; clear k1 HB; go_wp2; refine bodyPost_ret (v := .tuple #[.agg #[.int .i64 0, .int .i64 0], .int .i64 2]) ?_ rfl ⟨rfl, (hbel.setCell (by simp) _).setCell (by simp) _⟩; simp [results, Tryz.results172, go_sem, c0, c1]
set_option maxRecDepth 100000 in
theorem pw_great_p {w : World} {s r u t : ByteArray} {b : Bool} {n : Nat}
    (hs : (s.toList == [45, 48]) = false)
    (K1 : ∀ W : World, Calls Tryz.prog 193 #[.string s, .string ⟨#[45]⟩] W fun e w' => e = .returned (.tuple #[.string r, .bool b]) ∧ w' = W)
    (K2 : ∀ W : World, Calls Tryz.prog 194 #[.string r, .string ⟨#[46]⟩] W fun e w' => e = .returned (.tuple #[.string u, .string t, .bool true]) ∧ Below W.heap.size W w')
    (K3 : ∀ W : World, Calls Tryz.prog 195 #[.string u] W fun e w' => e = .returned (.bool true) ∧ Below W.heap.size W w')
    (K4 : ∀ W : World, Calls Tryz.prog 196 #[.string t] W fun e w' => e = .returned (.bool true) ∧ Below W.heap.size W w')
    (K5 : ∀ W : World, Calls Tryz.prog 197 #[.string r] W fun e w' => e = .returned (.tuple #[.int .u64 (n : Nat), .bool false]) ∧ Below W.heap.size W w')
    : Calls Tryz.prog 172 #[.string s] w fun e w' => e = .returned (.tuple #[.agg #[.int .i64 0, .int .i64 0], .int .i64 8]) ∧ Below w.heap.size w w' := by
  have H1 := Lib.hid K1; have H2 := Lib.hid K2; have H3 := Lib.hid K3; have H4 := Lib.hid K4; have H5 := Lib.hid K5; clear K1 K2 K3 K4 K5; have HB := Lib.hid (sb1 w 30 #[.int .i64 0, .int .i64 0]); go_enter Tryz.func172, Tryz.ntmps172
  go_wp2_with fail
  refine (H1.out _).mono ?_; rintro e w1 ⟨rfl, rfl⟩
  go_wp2_with fail
  refine (H2.out _).mono ?_; rintro e w1 ⟨rfl, hb⟩; have HB1 := Lib.hid (HB.out.call hb); clear hb HB; have HB := HB1; clear HB1
  go_wp2_with fail
  refine (H3.out _).mono ?_; rintro e w1 ⟨rfl, hb⟩; have HB1 := Lib.hid (HB.out.call hb); clear hb HB; have HB := HB1; clear HB1
  go_wp2_with fail
  refine (H4.out _).mono ?_; rintro e w1 ⟨rfl, hb⟩; have HB1 := Lib.hid (HB.out.call hb); clear hb HB; have HB := HB1; clear HB1
  go_wp2_with fail
  refine (H5.out _).mono ?_; rintro e w1 ⟨rfl, hb⟩; have HB1 := Lib.hid (HB.out.call hb); clear hb HB; have HB := HB1; clear HB1; have k1 := HB.out.bk _ (.head _); have hbel := HB.out.bel; have c0 := k1.cell 0; have c1 := k1.cell 1; have z0 := k1.frozen 0; have z1 := k1.frozen 1; clear k1 HB; go_wp2; refine bodyPost_ret (v := .tuple #[.agg #[.int .i64 0, .int .i64 0], .int .i64 8]) ?_ rfl ⟨rfl, (hbel.setCell (by simp) _).setCell (by simp) _⟩; simp [results, Tryz.results172, go_sem, c0, c1]
set_option maxRecDepth 100000 in
theorem pw_wide_p {w : World} {s r u t : ByteArray} {b : Bool} {n : Nat} {m : Int}
    (hs : (s.toList == [45, 48]) = false)
    (K1 : ∀ W : World, Calls Tryz.prog 193 #[.string s, .string ⟨#[45]⟩] W fun e w' => e = .returned (.tuple #[.string r, .bool b]) ∧ w' = W)
    (K2 : ∀ W : World, Calls Tryz.prog 194 #[.string r, .string ⟨#[46]⟩] W fun e w' => e = .returned (.tuple #[.string u, .string t, .bool true]) ∧ Below W.heap.size W w')
    (K3 : ∀ W : World, Calls Tryz.prog 195 #[.string u] W fun e w' => e = .returned (.bool true) ∧ Below W.heap.size W w')
    (K4 : ∀ W : World, Calls Tryz.prog 196 #[.string t] W fun e w' => e = .returned (.bool true) ∧ Below W.heap.size W w')
    (K5 : ∀ W : World, Calls Tryz.prog 197 #[.string r] W fun e w' => e = .returned (.tuple #[.int .u64 (n : Nat), .bool true]) ∧ Below W.heap.size W w')
    (K6 : ∀ W : World, Calls Tryz.prog 162 #[.agg #[.bool b, .int .u64 0, .int .u64 (n : Nat)]] W fun e w' => e = .returned (.tuple #[.int .i64 m, .bool false]) ∧ Below W.heap.size W w')
    : Calls Tryz.prog 172 #[.string s] w fun e w' => e = .returned (.tuple #[.agg #[.int .i64 0, .int .i64 0], .int .i64 8]) ∧ Below w.heap.size w w' := by
  have H1 := Lib.hid K1; have H2 := Lib.hid K2; have H3 := Lib.hid K3; have H4 := Lib.hid K4; have H5 := Lib.hid K5; have H6 := Lib.hid K6; clear K1 K2 K3 K4 K5 K6; have HB := Lib.hid (sb1 w 30 #[.int .i64 0, .int .i64 0]); go_enter Tryz.func172, Tryz.ntmps172
  go_wp2_with fail
  refine (H1.out _).mono ?_; rintro e w1 ⟨rfl, rfl⟩
  go_wp2_with fail
  refine (H2.out _).mono ?_; rintro e w1 ⟨rfl, hb⟩; have HB1 := Lib.hid (HB.out.call hb); clear hb HB; have HB := HB1; clear HB1
  go_wp2_with fail
  refine (H3.out _).mono ?_; rintro e w1 ⟨rfl, hb⟩; have HB1 := Lib.hid (HB.out.call hb); clear hb HB; have HB := HB1; clear HB1
  go_wp2_with fail
  refine (H4.out _).mono ?_; rintro e w1 ⟨rfl, hb⟩; have HB1 := Lib.hid (HB.out.call hb); clear hb HB; have HB := HB1; clear HB1
  go_wp2_with fail
  refine (H5.out _).mono ?_; rintro e w1 ⟨rfl, hb⟩; have HB1 := Lib.hid (HB.out.call hb); clear hb HB; have HB := HB1; clear HB1
  go_wp2_with fail
  refine (H6.out _).mono ?_; rintro e w1 ⟨rfl, hb⟩; have HB1 := Lib.hid (HB.out.call hb); clear hb HB; have HB := HB1; clear HB1; have k1 := HB.out.bk _ (.head _); have hbel := HB.out.bel; have c0 := k1.cell 0; have c1 := k1.cell 1; have z0 := k1.frozen 0; have z1 := k1.frozen 1; clear k1 HB; go_wp2; refine bodyPost_ret (v := .tuple #[.agg #[.int .i64 0, .int .i64 0], .int .i64 8]) ?_ rfl ⟨rfl, (hbel.setCell (by simp) _).setCell (by simp) _⟩; simp [results, Tryz.results172, go_sem, c0, c1]
set_option maxRecDepth 100000 in
theorem pw_long_p {w : World} {s r u t : ByteArray} {b : Bool} {n : Nat} {m : Int}
    (hs : (s.toList == [45, 48]) = false)
    (K1 : ∀ W : World, Calls Tryz.prog 193 #[.string s, .string ⟨#[45]⟩] W fun e w' => e = .returned (.tuple #[.string r, .bool b]) ∧ w' = W)
    (K2 : ∀ W : World, Calls Tryz.prog 194 #[.string r, .string ⟨#[46]⟩] W fun e w' => e = .returned (.tuple #[.string u, .string t, .bool true]) ∧ Below W.heap.size W w')
    (K3 : ∀ W : World, Calls Tryz.prog 195 #[.string u] W fun e w' => e = .returned (.bool true) ∧ Below W.heap.size W w')
    (K4 : ∀ W : World, Calls Tryz.prog 196 #[.string t] W fun e w' => e = .returned (.bool true) ∧ Below W.heap.size W w')
    (K5 : ∀ W : World, Calls Tryz.prog 197 #[.string r] W fun e w' => e = .returned (.tuple #[.int .u64 (n : Nat), .bool true]) ∧ Below W.heap.size W w')
    (K6 : ∀ W : World, Calls Tryz.prog 162 #[.agg #[.bool b, .int .u64 0, .int .u64 (n : Nat)]] W fun e w' => e = .returned (.tuple #[.int .i64 m, .bool true]) ∧ Below W.heap.size W w')
    (hbig : 9 < t.size)
    : Calls Tryz.prog 172 #[.string s] w fun e w' => e = .returned (.tuple #[.agg #[.int .i64 0, .int .i64 0], .int .i64 1]) ∧ Below w.heap.size w w' := by
  have hbig' : (9 : Int) < ((t.size : Nat) : Int) := by omega
  clear hbig; have H1 := Lib.hid K1; have H2 := Lib.hid K2; have H3 := Lib.hid K3; have H4 := Lib.hid K4; have H5 := Lib.hid K5; have H6 := Lib.hid K6; clear K1 K2 K3 K4 K5 K6; have HB := Lib.hid (sb1 w 30 #[.int .i64 0, .int .i64 0]); go_enter Tryz.func172, Tryz.ntmps172
  go_wp2_with fail
  refine (H1.out _).mono ?_; rintro e w1 ⟨rfl, rfl⟩
  go_wp2_with fail
  refine (H2.out _).mono ?_; rintro e w1 ⟨rfl, hb⟩; have HB1 := Lib.hid (HB.out.call hb); clear hb HB; have HB := HB1; clear HB1
  go_wp2_with fail
  refine (H3.out _).mono ?_; rintro e w1 ⟨rfl, hb⟩; have HB1 := Lib.hid (HB.out.call hb); clear hb HB; have HB := HB1; clear HB1
  go_wp2_with fail
  refine (H4.out _).mono ?_; rintro e w1 ⟨rfl, hb⟩; have HB1 := Lib.hid (HB.out.call hb); clear hb HB; have HB := HB1; clear HB1
  go_wp2_with fail
  refine (H5.out _).mono ?_; rintro e w1 ⟨rfl, hb⟩; have HB1 := Lib.hid (HB.out.call hb); clear hb HB; have HB := HB1; clear HB1
  go_wp2_with fail
  refine (H6.out _).mono ?_; rintro e w1 ⟨rfl, hb⟩; have HB1 := Lib.hid (HB.out.call hb); clear hb HB; have HB := HB1; clear HB1; have k1 := HB.out.bk _ (.head _); have hbel := HB.out.bel; have c0 := k1.cell 0; have c1 := k1.cell 1; have z0 := k1.frozen 0; have z1 := k1.frozen 1; clear k1 HB; go_wp2; refine bodyPost_ret (v := .tuple #[.agg #[.int .i64 0, .int .i64 0], .int .i64 1]) ?_ rfl ⟨rfl, (hbel.setCell (by simp) _).setCell (by simp) _⟩; simp [results, Tryz.results172, go_sem, c0, c1]
set_option maxRecDepth 100000 in
theorem pw_nought_p {w : World} {s r u t : ByteArray} {b : Bool} {n : Nat} {m : Int}
    (hs : (s.toList == [45, 48]) = false)
    (K1 : ∀ W : World, Calls Tryz.prog 193 #[.string s, .string ⟨#[45]⟩] W fun e w' => e = .returned (.tuple #[.string r, .bool b]) ∧ w' = W)
    (K2 : ∀ W : World, Calls Tryz.prog 194 #[.string r, .string ⟨#[46]⟩] W fun e w' => e = .returned (.tuple #[.string u, .string t, .bool true]) ∧ Below W.heap.size W w')
    (K3 : ∀ W : World, Calls Tryz.prog 195 #[.string u] W fun e w' => e = .returned (.bool true) ∧ Below W.heap.size W w')
    (K4 : ∀ W : World, Calls Tryz.prog 196 #[.string t] W fun e w' => e = .returned (.bool true) ∧ Below W.heap.size W w')
    (K5 : ∀ W : World, Calls Tryz.prog 197 #[.string r] W fun e w' => e = .returned (.tuple #[.int .u64 (n : Nat), .bool true]) ∧ Below W.heap.size W w')
    (K6 : ∀ W : World, Calls Tryz.prog 162 #[.agg #[.bool b, .int .u64 0, .int .u64 (n : Nat)]] W fun e w' => e = .returned (.tuple #[.int .i64 m, .bool true]) ∧ Below W.heap.size W w')
    (K7 : ∀ W : World, Calls Tryz.prog 198 #[.string t, .string ⟨#[48]⟩] W fun e w' => e = .returned (.bool true) ∧ w' = W)
    (hbig : t.size ≤ 9)
    : Calls Tryz.prog 172 #[.string s] w fun e w' => e = .returned (.tuple #[.agg #[.int .i64 0, .int .i64 0], .int .i64 1]) ∧ Below w.heap.size w w' := by
  have hbig' : ¬ (9 : Int) < ((t.size : Nat) : Int) := by omega
  clear hbig; have H1 := Lib.hid K1; have H2 := Lib.hid K2; have H3 := Lib.hid K3; have H4 := Lib.hid K4; have H5 := Lib.hid K5; have H6 := Lib.hid K6; have H7 := Lib.hid K7; clear K1 K2 K3 K4 K5 K6 K7; have HB := Lib.hid (sb1 w 30 #[.int .i64 0, .int .i64 0]); go_enter Tryz.func172, Tryz.ntmps172
  go_wp2_with fail
  refine (H1.out _).mono ?_; rintro e w1 ⟨rfl, rfl⟩
  go_wp2_with fail
  refine (H2.out _).mono ?_; rintro e w1 ⟨rfl, hb⟩; have HB1 := Lib.hid (HB.out.call hb); clear hb HB; have HB := HB1; clear HB1
  go_wp2_with fail
  refine (H3.out _).mono ?_; rintro e w1 ⟨rfl, hb⟩; have HB1 := Lib.hid (HB.out.call hb); clear hb HB; have HB := HB1; clear HB1
  go_wp2_with fail
  refine (H4.out _).mono ?_; rintro e w1 ⟨rfl, hb⟩; have HB1 := Lib.hid (HB.out.call hb); clear hb HB; have HB := HB1; clear HB1
  go_wp2_with fail
  refine (H5.out _).mono ?_; rintro e w1 ⟨rfl, hb⟩; have HB1 := Lib.hid (HB.out.call hb); clear hb HB; have HB := HB1; clear HB1
  go_wp2_with fail
  refine (H6.out _).mono ?_; rintro e w1 ⟨rfl, hb⟩; have HB1 := Lib.hid (HB.out.call hb); clear hb HB; have HB := HB1; clear HB1
  go_wp2_with fail
  refine (H7.out _).mono ?_; rintro e w1 ⟨rfl, rfl⟩; have k1 := HB.out.bk _ (.head _); have hbel := HB.out.bel; have c0 := k1.cell 0; have c1 := k1.cell 1; have z0 := k1.frozen 0; have z1 := k1.frozen 1; clear k1 HB; go_wp2; refine bodyPost_ret (v := .tuple #[.agg #[.int .i64 0, .int .i64 0], .int .i64 1]) ?_ rfl ⟨rfl, (hbel.setCell (by simp) _).setCell (by simp) _⟩; simp [results, Tryz.results172, go_sem, c0, c1]
set_option maxRecDepth 100000 in
theorem pw_good_p {w : World} {s r u t : ByteArray} {b : Bool} {n : Nat} {m : Int}
    (hs : (s.toList == [45, 48]) = false)
    (K1 : ∀ W : World, Calls Tryz.prog 193 #[.string s, .string ⟨#[45]⟩] W fun e w' => e = .returned (.tuple #[.string r, .bool b]) ∧ w' = W)
    (K2 : ∀ W : World, Calls Tryz.prog 194 #[.string r, .string ⟨#[46]⟩] W fun e w' => e = .returned (.tuple #[.string u, .string t, .bool true]) ∧ Below W.heap.size W w')
    (K3 : ∀ W : World, Calls Tryz.prog 195 #[.string u] W fun e w' => e = .returned (.bool true) ∧ Below W.heap.size W w')
    (K4 : ∀ W : World, Calls Tryz.prog 196 #[.string t] W fun e w' => e = .returned (.bool true) ∧ Below W.heap.size W w')
    (K5 : ∀ W : World, Calls Tryz.prog 197 #[.string r] W fun e w' => e = .returned (.tuple #[.int .u64 (n : Nat), .bool true]) ∧ Below W.heap.size W w')
    (K6 : ∀ W : World, Calls Tryz.prog 162 #[.agg #[.bool b, .int .u64 0, .int .u64 (n : Nat)]] W fun e w' => e = .returned (.tuple #[.int .i64 m, .bool true]) ∧ Below W.heap.size W w')
    (K7 : ∀ W : World, Calls Tryz.prog 198 #[.string t, .string ⟨#[48]⟩] W fun e w' => e = .returned (.bool false) ∧ w' = W)
    (hbig : t.size ≤ 9)
    : Calls Tryz.prog 172 #[.string s] w fun e w' => e = .returned (.tuple #[.agg #[.int .i64 m, .int .i64 (t.size : Nat)], .int .i64 0]) ∧ Below w.heap.size w w' := by
  have hbig' : ¬ (9 : Int) < ((t.size : Nat) : Int) := by omega
  clear hbig; have H1 := Lib.hid K1; have H2 := Lib.hid K2; have H3 := Lib.hid K3; have H4 := Lib.hid K4; have H5 := Lib.hid K5; have H6 := Lib.hid K6; have H7 := Lib.hid K7; clear K1 K2 K3 K4 K5 K6 K7; have HB := Lib.hid (sb1 w 30 #[.int .i64 0, .int .i64 0]); go_enter Tryz.func172, Tryz.ntmps172
  go_wp2_with fail
  refine (H1.out _).mono ?_; rintro e w1 ⟨rfl, rfl⟩
  go_wp2_with fail
  refine (H2.out _).mono ?_; rintro e w1 ⟨rfl, hb⟩; have HB1 := Lib.hid (HB.out.call hb); clear hb HB; have HB := HB1; clear HB1
  go_wp2_with fail
  refine (H3.out _).mono ?_; rintro e w1 ⟨rfl, hb⟩; have HB1 := Lib.hid (HB.out.call hb); clear hb HB; have HB := HB1; clear HB1
  go_wp2_with fail
  refine (H4.out _).mono ?_; rintro e w1 ⟨rfl, hb⟩; have HB1 := Lib.hid (HB.out.call hb); clear hb HB; have HB := HB1; clear HB1
  go_wp2_with fail
  refine (H5.out _).mono ?_; rintro e w1 ⟨rfl, hb⟩; have HB1 := Lib.hid (HB.out.call hb); clear hb HB; have HB := HB1; clear HB1
  go_wp2_with fail
  refine (H6.out _).mono ?_; rintro e w1 ⟨rfl, hb⟩; have HB1 := Lib.hid (HB.out.call hb); clear hb HB; have HB := HB1; clear HB1
  go_wp2_with fail
  refine (H7.out _).mono ?_; rintro e w1 ⟨rfl, rfl⟩; have k1 := HB.out.bk _ (.head _); have hbel := HB.out.bel; have c0 := k1.cell 0; have c1 := k1.cell 1; have z0 := k1.frozen 0; have z1 := k1.frozen 1; clear k1 HB; go_wp2; refine bodyPost_ret (v := .tuple #[.agg #[.int .i64 m, .int .i64 (t.size : Nat)], .int .i64 0]) ?_ rfl ⟨rfl, (hbel.setCell (by simp) _).setCell (by simp) _⟩; simp [results, Tryz.results172, go_sem, c0, c1]
end Go.Proofs.YtngkolcpbgibcaaGreatDoor
