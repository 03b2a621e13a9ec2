/- dec.Parse of any text by its contract: it tells what the reference's way tells. Condition: the text is not too long. -/
/- dec.Text by its contract: what it tells of a decimal that may be. Condition: strconv.FormatUint keeps its contract (its table is laid). -/
/- val's Text, Words, Truth, Number by their contracts, at each form of a value. Condition: strconv.FormatUint keeps its contract. -/
/- val.Compare of any two values that may be, and val.Same, by their contracts. Condition: the texts are not too long. -/
/- What functions are told of values, plainly: as numbers, as words, as truths; what a reckoning tells. No condition. -/
/- Boxes of a call's own, told as a list: made, read, written as wholes, without being looked into. No condition. -/
import Derived.Test.YtngkolcpbgibcaaGreatDoorPa2
import Derived.Test.YtngkolcpbgibcaaGreatDoorTq
import Derived.Test.YtngkolcpbgibcaaGreatDoorV3
import Derived.Test.YtngkolcpbgibcaaGreatDoorD5
import Derived.Deep.MidRow
set_option linter.unusedVariables false
set_option linter.unusedSimpArgs false
namespace Go.Proofs.YtngkolcpbgibcaaGreatDoor
open Go.RowKit
def pD (l : List UInt8) : DR := refM l (isNeg l) (pre (isNeg l)).length
def unneg (l : List UInt8) : List UInt8 := if isNeg l then l.drop 1 else l
theorem neg_cut (l : List UInt8) : l = pre (isNeg l) ++ unneg l ∧ (isNeg l = false → (unneg l).head? ≠ some 45) ∧ Lib.hasPrefix l [45] = isNeg l ∧ Lib.trimPrefix l [45] = unneg l := by
  rcases l with _ | ⟨c, l⟩
  · exact ⟨rfl, by simp [unneg, isNeg], rfl, rfl⟩
  · by_cases hc : c = 45
    · subst hc; exact ⟨rfl, by simp [isNeg], rfl, rfl⟩
    · have h1 : isNeg (c :: l) = false := by simp [isNeg, hc]
      have h2 : Lib.hasPrefix (c :: l) [45] = false := by
        have : ¬ (45 : UInt8) = c := fun h => hc h.symm; simp [Lib.hasPrefix, List.isPrefixOf, this]
      have h3 : unneg (c :: l) = c :: l := by unfold unneg; rw [h1]; rfl
      refine ⟨by rw [h1, h3]; rfl, fun _ => by rw [h3]; simpa using hc, by rw [h1, h2], ?_⟩; unfold Lib.trimPrefix; rw [h2, h3]; rfl
theorem suf_last (t : List UInt8) : Lib.hasSuffix t [48] = (t.getLast? == some 48) := by
  rcases List.eq_nil_or_concat t with rfl | ⟨q, x, rfl⟩
  · rfl
  · simp only [Lib.hasSuffix, List.isSuffixOf, List.concat_eq_append, List.reverse_append, List.reverse_cons, List.reverse_nil, List.nil_append, List.cons_append, List.isPrefixOf, Bool.and_true, List.getLast?_append, List.getLast?_singleton, Option.some_or]
    by_cases h : x = 48
    · subst h; rfl
    · rw [show ((48 : UInt8) == x) = false from beq_eq_false_iff_ne.2 fun h' => h h'.symm]; exact (beq_eq_false_iff_ne.2 fun h' => h (Option.some.inj h')).symm
theorem gv_gq (l : List UInt8) : gv l = gq l := rfl
theorem asc_dig {l : List UInt8} (h : ∀ c ∈ l, dq c = true ∨ c = 46) : Asc ⟨l.toArray⟩ := by
  intro i hi; have hm : (⟨l.toArray⟩ : ByteArray)[i] ∈ l := List.getElem_mem (l := l) (n := i) (by simpa [ByteArray.size] using hi)
  rcases h _ hm with h | h
  · simp only [dq, Bool.and_eq_true, decide_eq_true_eq] at h; omega
  · rw [h]
    decide
theorem all_dq {l : List UInt8} (h : digsB l = true) : ∀ c ∈ l, dq c = true := by
  unfold digsB at h; rw [Bool.and_eq_true] at h; exact List.all_eq_true.1 h.1
theorem whole_dq {l : List UInt8} (h : wholeB l = true) : digsB l = true := by
  unfold wholeB at h; rw [Bool.and_eq_true] at h; exact h.1
theorem bsize (l : List UInt8) : (⟨l.toArray⟩ : ByteArray).size = l.length := by simp [ByteArray.size]
theorem blist (l : List UInt8) : (⟨l.toArray⟩ : ByteArray).toList = l := by rw [ByteArray.toList_eq]
theorem ex_left (w t : List UInt8) : (⟨(w ++ 46 :: t).toArray⟩ : ByteArray).extract 0 w.length = ⟨w.toArray⟩ := by
  apply ByteArray.ext; simp
theorem ex_right (w t : List UInt8) : (⟨(w ++ 46 :: t).toArray⟩ : ByteArray).extract (w.length + 1) (⟨(w ++ 46 :: t).toArray⟩ : ByteArray).size = ⟨t.toArray⟩ := by
  apply ByteArray.ext; rw [bsize, ByteArray.data_extract]; apply Array.toList_inj.1; rw [Array.toList_extract, List.length_append, List.length_cons]; simp only [List.extract_eq_take_drop]; rw [show w ++ 46 :: t = (w ++ [46]) ++ t by simp, show w.length + 1 = (w ++ [46]).length by simp, List.drop_left, List.take_of_length_le (by simp; omega)]
def ParseTo (s : ByteArray) (w : World) (r : DR) : Prop := Calls Tryz.prog 172 #[.string s] w fun e w' => e = .returned (dv r) ∧ Below w.heap.size w w'
theorem gather_c {l : List UInt8} (h : ∀ c ∈ l, dq c = true ∨ c = 46) (hl : l.length ≤ 100000000000) (W : World) :
    Calls Tryz.prog 197 #[.string ⟨l.toArray⟩] W fun e w' => e = .returned (.tuple #[.int .u64 (gN l : Nat), .bool (gB l)]) ∧ Below W.heap.size W w' :=
  gather_any (w := W) (asc_dig h) (by rw [bsize]; omega)
theorem parse_cases {l r u t : List UInt8} {b p : Bool} {w : World} (hl : l.length ≤ 10000000000) (hr : r.length ≤ 10000000000) (hu : u.length ≤ 10000000000) (ht : t.length ≤ 10000000000)
    (K1 : ∀ W : World, Calls Tryz.prog 193 #[.string ⟨l.toArray⟩, .string ⟨#[45]⟩] W fun e w' => e = .returned (.tuple #[.string ⟨r.toArray⟩, .bool b]) ∧ w' = W)
    (K2 : ∀ W : World, Calls Tryz.prog 194 #[.string ⟨r.toArray⟩, .string ⟨#[46]⟩] W fun e w' => e = .returned (.tuple #[.string ⟨u.toArray⟩, .string ⟨t.toArray⟩, .bool p]) ∧ Below W.heap.size W w')
    (hg : gq r = gq (u ++ t)) (hd : wholeB u = true → (p = true → digsB t = true) → ∀ c ∈ r, dq c = true ∨ c = 46) (hp : p = false → t = []) : ParseTo ⟨l.toArray⟩ w (parseP l b u t p) := by
  unfold ParseTo
  by_cases h0 : l = [45, 48]
  · subst h0; have : parseP [45, 48] b u t p = ⟨0, 0, 2⟩ := by unfold parseP; rw [if_pos (.inl rfl)]
    rw [this]
    cases p
    · have := pw_neg0_n K1 K2 (w := w); exact this
    · have := pw_neg0_p K1 K2 (w := w); exact this
  · have hs : ((⟨l.toArray⟩ : ByteArray).toList == [45, 48]) = false := by rw [blist]; simpa using h0
    have K3 : ∀ W : World, Calls Tryz.prog 195 #[.string ⟨u.toArray⟩] W fun e w' => e = .returned (.bool (wholeB u)) ∧ Below W.heap.size W w' := fun W => isWhole_l (by omega); have K4 : ∀ W : World, Calls Tryz.prog 196 #[.string ⟨t.toArray⟩] W fun e w' => e = .returned (.bool (digsB t)) ∧ Below W.heap.size W w' := fun W => isDigits_l (by omega)
    by_cases h1 : wholeB u = false
    · have : parseP l b u t p = ⟨0, 0, 2⟩ := by unfold parseP; rw [if_pos (.inr (.inl h1))]
      rw [this]; rw [h1] at K3
      cases p
      · exact pw_whole_n hs K1 K2 K3
      · exact pw_whole_p hs K1 K2 K3
    · have h1' : wholeB u = true := by simpa using h1
      rw [h1'] at K3
      by_cases h2 : p = true ∧ digsB t = false
      · have : parseP l b u t p = ⟨0, 0, 2⟩ := by unfold parseP; rw [if_pos (.inr (.inr h2))]
        rw [this]; obtain ⟨rfl, h2⟩ := h2; rw [h2] at K4; exact pw_digits hs K1 K2 K3 K4
      · have hdt : p = true → digsB t = true := fun hp => by
          cases h : digsB t
          · exact absurd ⟨hp, h⟩ h2
          · rfl
        have hall := hd h1' hdt
        have e0 : parseP l b u t p = numE b (gq r) t.length (t.getLast? == some 48) := by
          unfold parseP; rw [if_neg (by rintro (h | h | h); exact h0 h; exact h1 h; exact h2 h), hg]
        rw [e0]; have K5 := gather_c hall (by omega)
        by_cases h3 : gv r < 18446744073709551616
        · obtain ⟨e1, e2⟩ := gNB_yes h3; rw [e1, e2] at K5; rw [gv_gq] at h3 K5; generalize gq r = n at *
          have K6 : ∀ W : World, Calls Tryz.prog 162 #[.agg #[.bool b, .int .u64 0, .int .u64 (n : Nat)]] W fun e w' => e = .returned (.tuple #[.int .i64 (nrv b n), .bool (nrw b n)]) ∧ Below W.heap.size W w' := fun W => by
            have := narrow_any (w := W) (b := b) (n := n) (by omega); rw [wd_small h3] at this; exact this
          unfold numE
          by_cases h4 : n ≤ most b
          · have e3 : nrw b n = true := decide_eq_true h4; have e4 : nrv b n = sgn b n := if_pos h4; rw [e3, e4] at K6; rw [if_pos h4]
            by_cases h5 : 9 < t.length
            · rw [if_pos (.inl h5)]
              cases p
              · exact absurd (hp rfl) (by rintro rfl; simp at h5)
              · have hdt' := hdt rfl; rw [hdt'] at K4; exact pw_long_p hs K1 K2 K3 K4 K5 K6 (by rw [bsize]; exact h5)
            · have K7 : ∀ W : World, Calls Tryz.prog 198 #[.string ⟨t.toArray⟩, .string ⟨#[48]⟩] W fun e w' => e = .returned (.bool (t.getLast? == some 48)) ∧ w' = W := fun W => hs_of (by rw [bsize]; omega) (suf_last t)
              by_cases h6 : (t.getLast? == some 48) = true
              · rw [if_pos (.inr h6)]; rw [h6] at K7
                cases p
                · exact pw_nought_n hs K1 K2 K3 K5 K6 K7 (by rw [bsize]; omega)
                · have hdt' := hdt rfl; rw [hdt'] at K4; exact pw_nought_p hs K1 K2 K3 K4 K5 K6 K7 (by rw [bsize]; omega)
              · have h6' : (t.getLast? == some 48) = false := by simpa using h6
                rw [if_neg (by rintro (h | h); exact h5 h; exact h6 h)]; rw [h6'] at K7; unfold dv
                cases p
                · have := pw_good_n (w := w) hs K1 K2 K3 K5 K6 K7 (by rw [bsize]; omega); rw [bsize] at this; exact this
                · have hdt' := hdt rfl; rw [hdt'] at K4; have := pw_good_p (w := w) hs K1 K2 K3 K4 K5 K6 K7 (by rw [bsize]; omega); rw [bsize] at this; exact this
          · have e3 : nrw b n = false := decide_eq_false h4; rw [e3] at K6; rw [if_neg h4]
            cases p
            · exact pw_wide_n hs K1 K2 K3 K5 K6
            · have hdt' := hdt rfl; rw [hdt'] at K4; exact pw_wide_p hs K1 K2 K3 K4 K5 K6
        · obtain ⟨e1, e2⟩ := gNB_no h3; rw [e1, e2] at K5; rw [gv_gq] at h3; have h4 : ¬ gq r ≤ most b := by unfold most; split <;> omega
          unfold numE; rw [if_neg h4]
          cases p
          · exact pw_great_n hs K1 K2 K3 K5
          · have hdt' := hdt rfl; rw [hdt'] at K4; exact pw_great_p hs K1 K2 K3 K4 K5
theorem parse_l {w : World} (l : List UInt8) (hl : l.length ≤ 100000000) : ParseTo ⟨l.toArray⟩ w (pD l) := by
  obtain ⟨h1, h2, h3, h4⟩ := neg_cut l; have hlen : (unneg l).length ≤ l.length := by unfold unneg; split <;> simp
  have K1 : ∀ W : World, Calls Tryz.prog 193 #[.string ⟨l.toArray⟩, .string ⟨#[45]⟩] W fun e w' => e = .returned (.tuple #[.string ⟨(unneg l).toArray⟩, .bool (isNeg l)]) ∧ w' = W := fun W => cp_of h4 h3
  rcases point_cases (unneg l) with ⟨hno, hi⟩ | ⟨u, t, hr, hno, hi⟩
  · have : pD l = parseP l (isNeg l) (unneg l) [] false := ref_none h1 h2 hno; rw [this]; have K2 : ∀ W : World, Calls Tryz.prog 194 #[.string ⟨(unneg l).toArray⟩, .string ⟨#[46]⟩] W fun e w' => e = .returned (.tuple #[.string ⟨(unneg l).toArray⟩, .string ⟨([] : List UInt8).toArray⟩, .bool false]) ∧ Below W.heap.size W w' := fun W => cut_any (fun W => cut0_no hi) rfl; exact parse_cases (by omega) (by omega) (by omega) (by simp) K1 K2 (by rw [List.append_nil]) (fun hw _ c hc => .inl (all_dq (whole_dq hw) c hc)) (fun _ => rfl)
  · have : pD l = parseP l (isNeg l) u t true := ref_point (by rw [hr] at h1; exact h1) hno; rw [this]; have hlt : u.length + 1 + t.length ≤ 100000000 := by rw [hr] at hlen; simp at hlen; omega
    rw [hr] at K1
    have K2 : ∀ W : World, Calls Tryz.prog 194 #[.string ⟨(u ++ 46 :: t).toArray⟩, .string ⟨#[46]⟩] W fun e w' => e = .returned (.tuple #[.string ⟨u.toArray⟩, .string ⟨t.toArray⟩, .bool true]) ∧ Below W.heap.size W w' := fun W => by
      have := fun W => cut0_yes (w := W) (s := ⟨(u ++ 46 :: t).toArray⟩) (i := u.length) (by rw [hr] at hi; exact hi) (by rw [bsize, List.length_append, List.length_cons]; omega) (by rw [bsize, List.length_append, List.length_cons]; omega); rw [ex_left, ex_right] at this; exact cut_any this rfl
    refine parse_cases (by omega) (by simp; omega) (by omega) (by omega) K1 K2 (gq_point u t) (fun hw hp c hc => ?_) (fun h => by cases h)
    rcases List.mem_append.1 hc with h | h
    · exact .inl (all_dq (whole_dq hw) c h)
    · rcases List.mem_cons.1 h with h | h
      · exact .inr h
      · exact .inl (all_dq (hp rfl) c h)
end Go.Proofs.YtngkolcpbgibcaaGreatDoor
namespace Go.Proofs.YtngkolcpbgibcaaGreatDoor
open Go.RowKit
theorem ba_app (l m : List UInt8) : (⟨l.toArray⟩ : ByteArray) ++ (⟨m.toArray⟩ : ByteArray) = ⟨(l ++ m).toArray⟩ := by
  apply ByteArray.ext; simp
theorem ba_take (l : List UInt8) (p : Nat) : (⟨l.toArray⟩ : ByteArray).extract 0 p = ⟨(l.take p).toArray⟩ := by
  apply ByteArray.ext; simp
theorem ba_drop (l : List UInt8) (p : Nat) : (⟨l.toArray⟩ : ByteArray).extract p (⟨l.toArray⟩ : ByteArray).size = ⟨(l.drop p).toArray⟩ := by
  apply ByteArray.ext; rw [bsize, ByteArray.data_extract]; apply Array.toList_inj.1; rw [Array.toList_extract, List.extract_eq_take_drop, List.take_of_length_le (by simp)]
theorem dec_len {n : Nat} (h : n < 18446744073709551616) : 1 ≤ (Lib.decDigits n).length ∧ (Lib.decDigits n).length ≤ 20 := by
  by_cases h0 : n = 0
  · subst h0; rw [decDigits_0]; simp
  · rw [decDigits_digs n n (Nat.le_refl _) (by omega), List.length_reverse, List.length_map]; have h1 : (digs n).length ≤ 20 := digs_len.2 (by omega); rw [digs_pos (by omega)] at *; simp only [List.length_cons] at *; omega
theorem w64 {x : Int} (h0 : -9223372036854775808 ≤ x) (h1 : x ≤ 9223372036854775807) : wrap64 x = x := IntWalk.wrap64_in _ ⟨h0, h1⟩
theorem text_any {w : World} (HT : Tens w) {m : Int} {s : Nat} (h : Gd m s) :
    Calls Tryz.prog 199 #[.agg #[.int .i64 m, .int .i64 (s : Nat)]] w fun e w' => e = .returned (sL (decTx m s)) ∧ Below w.heap.size w w' := by
  have hm0 := h.lo; have hm1 := h.hi; have hs9 := h.s9; have hn : m.natAbs < 18446744073709551616 := by omega
  have K1 : ∀ W : World, Calls Tryz.prog 63 #[.agg #[.int .i64 m, .int .i64 (s : Nat)]] W fun e w' => e = .returned (.int .i64 0) ∧ Below W.heap.size W w' := fun W => by
    have := check_any (w := W) (m := m) (s := (s : Int)); rw [h.ck] at this; exact this
  have K2 : ∀ W : World, Calls Tryz.prog 88 #[.int .i64 m] W fun e w' => e = .returned (.agg #[.bool (decide (m < 0)), .int .u64 0, .int .u64 (m.natAbs : Nat)]) ∧ Below W.heap.size W w' := fun W => by
    have := widen_any (w := W) hm0 hm1; rw [wd_small hn] at this; exact this
  have K3 : ∀ W : World, Below w.heap.size w W → Calls Tryz.prog 213 #[.int .u64 (m.natAbs : Nat), .int .i64 10] W fun e w' => e = .returned (sL (Lib.decDigits m.natAbs)) ∧ Below W.heap.size W w' := fun W hb => HT _ W hn hb; obtain ⟨hd1, hd20⟩ := dec_len hn; have hpad := prog_pad m.natAbs s; have hplen := padded_len m.natAbs s
  have hll : (padded m.natAbs s).length = (s + 1 - (Lib.decDigits m.natAbs).length) + (Lib.decDigits m.natAbs).length := by
    have := congrArg List.length hpad; simp only [List.length_append, List.length_replicate, List.length_reverse, List.length_map] at this; omega
  clear h HT; have e1 : wrap64 ((s : Int) + 1) = (s : Int) + 1 := w64 (by omega) (by omega)
  by_cases hlack : 0 < s + 1 - (Lib.decDigits m.natAbs).length
  · have K4 : ∀ W : World, Calls Tryz.prog 183 #[.string ⟨#[48]⟩, .int .i64 ((s + 1 - (Lib.decDigits m.natAbs).length : Nat) : Int)] W fun e w' => e = .returned (sL (List.replicate (s + 1 - (Lib.decDigits m.natAbs).length) 48)) ∧ w' = W := fun W => rep_any hlack (by omega); have hs0 : (0 : Int) < (s : Nat) := by omega
    have hzl : (List.replicate (s + 1 - (Lib.decDigits m.natAbs).length) (48 : UInt8)).length = s + 1 - (Lib.decDigits m.natAbs).length := List.length_replicate; have h1 : wrap64 (wrap64 ((s : Int) + 1) - ((Lib.decDigits m.natAbs).length : Int)) = ((s + 1 - (Lib.decDigits m.natAbs).length : Nat) : Int) := by rw [e1, w64 (by omega) (by omega)]; omega
    have h2 : wrap64 (((List.replicate (s + 1 - (Lib.decDigits m.natAbs).length) (48 : UInt8)).length : Int) + ((Lib.decDigits m.natAbs).length : Int) - (s : Int)) = (((padded m.natAbs s).length - s : Nat) : Int) := by rw [hzl, w64 (by omega) (by omega)]; omega
    have key : ((⟨(List.replicate (s + 1 - (Lib.decDigits m.natAbs).length) (48 : UInt8)).toArray⟩ : ByteArray) ++ ⟨(Lib.decDigits m.natAbs).toArray⟩) = ⟨(((padded m.natAbs s).map bt).reverse).toArray⟩ := by rw [ba_app, hpad]
    have fin : (⟨(((padded m.natAbs s).map bt).reverse).toArray⟩ : ByteArray).extract 0 ((padded m.natAbs s).length - s) ++ ⟨#[46]⟩ ++ (⟨(((padded m.natAbs s).map bt).reverse).toArray⟩ : ByteArray).extract ((padded m.natAbs s).length - s) (⟨(((padded m.natAbs s).map bt).reverse).toArray⟩ : ByteArray).size = ⟨(body (padded m.natAbs s) s).toArray⟩ := by
      rw [ba_take, ba_drop, show (⟨#[46]⟩ : ByteArray) = ⟨([46] : List UInt8).toArray⟩ from rfl, ba_app, ba_app, prog_point hplen (by omega)]
    unfold decTx
    by_cases hneg : m < 0
    · rw [show decide (m < 0) = true from decide_eq_true hneg] at K2; refine (tw_lpm K1 K2 K3 K4 h1 (by omega) (by omega) hs0 h2 (by omega) (by omega)).mono ?_; rintro e w' ⟨rfl, hb⟩; refine ⟨?_, hb⟩; rw [key, fin, if_pos hneg, show (⟨#[45]⟩ : ByteArray) = ⟨([45] : List UInt8).toArray⟩ from rfl, ba_app]; rfl
    · rw [show decide (m < 0) = false from decide_eq_false hneg] at K2; refine (tw_lpa K1 K2 K3 K4 h1 (by omega) (by omega) hs0 h2 (by omega) (by omega)).mono ?_; rintro e w' ⟨rfl, hb⟩; refine ⟨?_, hb⟩; rw [key, fin, if_neg hneg]; rfl
  · have hk0 : s + 1 - (Lib.decDigits m.natAbs).length = 0 := by omega
    rw [hk0, List.replicate_zero, List.nil_append] at hpad; rw [hk0, Nat.zero_add] at hll; have key : (⟨(Lib.decDigits m.natAbs).toArray⟩ : ByteArray) = ⟨(((padded m.natAbs s).map bt).reverse).toArray⟩ := by rw [hpad]
    unfold decTx
    by_cases hs : s = 0
    · subst hs; have h1 : ¬ 0 < wrap64 (1 - ((Lib.decDigits m.natAbs).length : Int)) := by rw [w64 (by omega) (by omega)]; omega
      have fin : (⟨(((padded m.natAbs 0).map bt).reverse).toArray⟩ : ByteArray) = ⟨(body (padded m.natAbs 0) 0).toArray⟩ := by rw [prog_whole]
      by_cases hneg : m < 0
      · rw [show decide (m < 0) = true from decide_eq_true hneg] at K2; refine (tw_nwm K1 K2 K3 h1 (by omega) (by omega)).mono ?_; rintro e w' ⟨rfl, hb⟩; refine ⟨?_, hb⟩; rw [key, fin, if_pos hneg, show (⟨#[45]⟩ : ByteArray) = ⟨([45] : List UInt8).toArray⟩ from rfl, ba_app]; rfl
      · rw [show decide (m < 0) = false from decide_eq_false hneg] at K2; refine (tw_nwa K1 K2 K3 h1 (by omega) (by omega)).mono ?_; rintro e w' ⟨rfl, hb⟩; refine ⟨?_, hb⟩; rw [key, fin, if_neg hneg]; rfl
    · have hs0 : (0 : Int) < (s : Nat) := by omega
      have h1 : ¬ 0 < wrap64 (wrap64 ((s : Int) + 1) - ((Lib.decDigits m.natAbs).length : Int)) := by rw [e1, w64 (by omega) (by omega)]; omega
      have h2 : wrap64 (((Lib.decDigits m.natAbs).length : Int) - (s : Int)) = (((padded m.natAbs s).length - s : Nat) : Int) := by rw [w64 (by omega) (by omega)]; omega
      have fin : (⟨(((padded m.natAbs s).map bt).reverse).toArray⟩ : ByteArray).extract 0 ((padded m.natAbs s).length - s) ++ ⟨#[46]⟩ ++ (⟨(((padded m.natAbs s).map bt).reverse).toArray⟩ : ByteArray).extract ((padded m.natAbs s).length - s) (⟨(((padded m.natAbs s).map bt).reverse).toArray⟩ : ByteArray).size = ⟨(body (padded m.natAbs s) s).toArray⟩ := by
        rw [ba_take, ba_drop, show (⟨#[46]⟩ : ByteArray) = ⟨([46] : List UInt8).toArray⟩ from rfl, ba_app, ba_app, prog_point hplen (by omega)]
      by_cases hneg : m < 0
      · rw [show decide (m < 0) = true from decide_eq_true hneg] at K2; refine (tw_npm K1 K2 K3 h1 hs0 h2 (by omega) (by omega)).mono ?_; rintro e w' ⟨rfl, hb⟩; refine ⟨?_, hb⟩; rw [key, fin, if_pos hneg, show (⟨#[45]⟩ : ByteArray) = ⟨([45] : List UInt8).toArray⟩ from rfl, ba_app]; rfl
      · rw [show decide (m < 0) = false from decide_eq_false hneg] at K2; refine (tw_npa K1 K2 K3 h1 hs0 h2 (by omega) (by omega)).mono ?_; rintro e w' ⟨rfl, hb⟩; refine ⟨?_, hb⟩; rw [key, fin, if_neg hneg]; rfl
end Go.Proofs.YtngkolcpbgibcaaGreatDoor
namespace Go.Proofs.YtngkolcpbgibcaaGreatDoor
open Go.RowKit
set_option maxRecDepth 20000 in
theorem text_blank {w : World} :
    Calls Tryz.prog 173 #[.agg #[.int .i64 0, .int .i64 0, .int .i64 0, .string ⟨#[]⟩, .bool false, .int .i64 0]] w fun x w' => x = .returned (sL []) ∧ Below w.heap.size w w' := by
  go_enter Tryz.func173, Tryz.ntmps173; go_wp2; go_ret; exact ⟨rfl, bel0 _ _⟩
set_option maxRecDepth 20000 in
theorem text_str {w : World} (t : ByteArray) :
    Calls Tryz.prog 173 #[.agg #[.int .i64 2, .int .i64 0, .int .i64 0, .string t, .bool false, .int .i64 0]] w fun x w' => x = .returned (.string t) ∧ Below w.heap.size w w' := by
  go_enter Tryz.func173, Tryz.ntmps173; go_wp2; go_ret; exact ⟨rfl, bel0 _ _⟩
set_option maxRecDepth 20000 in
theorem text_bool {w : World} (b : Bool) :
    Calls Tryz.prog 173 #[.agg #[.int .i64 3, .int .i64 0, .int .i64 0, .string ⟨#[]⟩, .bool b, .int .i64 0]] w fun x w' => x = .returned (sL (trL b)) ∧ Below w.heap.size w w' := by
  have HC : Hid (∀ W : World, Calls Tryz.prog 200 #[.bool b] W fun x w' => x = .returned (sL (trL b)) ∧ w' = W) := Lib.hid (fun W => truthText_any b); generalize sL (trL b) = V at *; have HB := Lib.hid (sb1 w 32 #[.int .i64 3, .int .i64 0, .int .i64 0, .string ⟨#[]⟩, .bool b, .int .i64 0]); go_enter Tryz.func173, Tryz.ntmps173
  go_wp2_with fail
  refine (HC.out _).mono ?_; rintro e w1 ⟨rfl, rfl⟩; have hbel := HB.out.bel; clear HB HC; go_wp2; go_ret; exact ⟨rfl, hbel⟩
set_option maxRecDepth 20000 in
theorem text_num {w : World} {m : Int} {s : Nat} (HT : Tens w) (h : Gd m s) :
    Calls Tryz.prog 173 #[.agg #[.int .i64 1, .int .i64 m, .int .i64 (s : Nat), .string ⟨#[]⟩, .bool false, .int .i64 0]] w fun x w' => x = .returned (sL (decTx m s)) ∧ Below w.heap.size w w' := by
  have HC : Hid (∀ W : World, Below w.heap.size w W → Calls Tryz.prog 199 #[.agg #[.int .i64 m, .int .i64 (s : Nat)]] W fun x w' => x = .returned (sL (decTx m s)) ∧ Below W.heap.size W w') := Lib.hid (fun W hb => text_any (HT.below hb) h); clear HT; generalize sL (decTx m s) = V at *; have HB := Lib.hid (sb1 w 32 #[.int .i64 1, .int .i64 m, .int .i64 (s : Nat), .string ⟨#[]⟩, .bool false, .int .i64 0]); go_enter Tryz.func173, Tryz.ntmps173
  go_wp2_with fail
  refine (HC.out _ HB.out.bel).mono ?_; rintro e w1 ⟨rfl, hb⟩; have hbel := (HB.out.call hb).bel; clear hb HB HC; go_wp2; go_ret; exact ⟨rfl, hbel⟩
set_option maxRecDepth 20000 in
theorem words_blank {w : World} :
    Calls Tryz.prog 111 #[.agg #[.int .i64 0, .int .i64 0, .int .i64 0, .string ⟨#[]⟩, .bool false, .int .i64 0]] w fun x w' => x = .returned (.tuple #[sL [], .agg #[.int .i64 0, .int .i64 0, .int .i64 0, .string ⟨#[]⟩, .bool false, .int .i64 0], .bool true]) ∧ Below w.heap.size w w' := by
  have HC : Hid (∀ W : World, Calls Tryz.prog 173 #[.agg #[.int .i64 0, .int .i64 0, .int .i64 0, .string ⟨#[]⟩, .bool false, .int .i64 0]] W fun x w' => x = .returned (sL []) ∧ Below W.heap.size W w') := Lib.hid (fun W => text_blank); obtain ⟨V, hV⟩ : ∃ V, sL [] = V := ⟨_, rfl⟩
  rw [hV] at HC ⊢; clear hV; have HB := Lib.hid ((sb1 w 32 #[.int .i64 0, .int .i64 0, .int .i64 0, .string ⟨#[]⟩, .bool false, .int .i64 0]).push (by simp) 32 #[.int .i64 0, .int .i64 0, .int .i64 0, .string ⟨#[]⟩, .bool false, .int .i64 0]); go_enter Tryz.func111, Tryz.ntmps111
  go_wp2_with fail
  refine (HC.out _).mono ?_; rintro e w1 ⟨rfl, hb⟩; have hB := HB.out.call hb; have hF := hB.put6 (i := 0) rfl (by omega) (by simp [butBox] <;> omega) (.int .i64 0 : Value) (.int .i64 0 : Value) (.int .i64 0 : Value) (.string ⟨#[]⟩ : Value) (.bool false : Value) (.int .i64 0 : Value); have hbel := hF.bel; have kr := hB.box (i := 0) rfl; have cr0 := kr.cell 0; have zr0 := kr.frozen 0; have cr1 := kr.cell 1; have zr1 := kr.frozen 1; have cr2 := kr.cell 2; have zr2 := kr.frozen 2; have cr3 := kr.cell 3; have zr3 := kr.frozen 3; have cr4 := kr.cell 4; have zr4 := kr.frozen 4; have cr5 := kr.cell 5; have zr5 := kr.frozen 5; clear kr; clear hb HB HC hB hF; go_wp2; refine bodyPost_ret (v := .tuple #[V, .agg #[.int .i64 0, .int .i64 0, .int .i64 0, .string ⟨#[]⟩, .bool false, .int .i64 0], .bool true]) ?_ rfl ⟨rfl, hbel⟩; simp [results, Tryz.results111, go_sem, cr0, cr1, cr2, cr3, cr4, cr5]
set_option maxRecDepth 20000 in
theorem words_str {w : World} (t : ByteArray) :
    Calls Tryz.prog 111 #[.agg #[.int .i64 2, .int .i64 0, .int .i64 0, .string t, .bool false, .int .i64 0]] w fun x w' => x = .returned (.tuple #[.string t, .agg #[.int .i64 0, .int .i64 0, .int .i64 0, .string ⟨#[]⟩, .bool false, .int .i64 0], .bool true]) ∧ Below w.heap.size w w' := by
  have HC : Hid (∀ W : World, Calls Tryz.prog 173 #[.agg #[.int .i64 2, .int .i64 0, .int .i64 0, .string t, .bool false, .int .i64 0]] W fun x w' => x = .returned (.string t) ∧ Below W.heap.size W w') := Lib.hid (fun W => text_str t); have HB := Lib.hid ((sb1 w 32 #[.int .i64 2, .int .i64 0, .int .i64 0, .string t, .bool false, .int .i64 0]).push (by simp) 32 #[.int .i64 0, .int .i64 0, .int .i64 0, .string ⟨#[]⟩, .bool false, .int .i64 0]); go_enter Tryz.func111, Tryz.ntmps111
  go_wp2_with fail
  refine (HC.out _).mono ?_; rintro e w1 ⟨rfl, hb⟩; have hB := HB.out.call hb; have hF := hB.put6 (i := 0) rfl (by omega) (by simp [butBox] <;> omega) (.int .i64 0 : Value) (.int .i64 0 : Value) (.int .i64 0 : Value) (.string ⟨#[]⟩ : Value) (.bool false : Value) (.int .i64 0 : Value); have hbel := hF.bel; have kr := hB.box (i := 0) rfl; have cr0 := kr.cell 0; have zr0 := kr.frozen 0; have cr1 := kr.cell 1; have zr1 := kr.frozen 1; have cr2 := kr.cell 2; have zr2 := kr.frozen 2; have cr3 := kr.cell 3; have zr3 := kr.frozen 3; have cr4 := kr.cell 4; have zr4 := kr.frozen 4; have cr5 := kr.cell 5; have zr5 := kr.frozen 5; clear kr; clear hb HB HC hB hF; go_wp2; refine bodyPost_ret (v := .tuple #[.string t, .agg #[.int .i64 0, .int .i64 0, .int .i64 0, .string ⟨#[]⟩, .bool false, .int .i64 0], .bool true]) ?_ rfl ⟨rfl, hbel⟩; simp [results, Tryz.results111, go_sem, cr0, cr1, cr2, cr3, cr4, cr5]
set_option maxRecDepth 20000 in
theorem words_bool {w : World} (b : Bool) :
    Calls Tryz.prog 111 #[.agg #[.int .i64 3, .int .i64 0, .int .i64 0, .string ⟨#[]⟩, .bool b, .int .i64 0]] w fun x w' => x = .returned (.tuple #[sL (trL b), .agg #[.int .i64 0, .int .i64 0, .int .i64 0, .string ⟨#[]⟩, .bool false, .int .i64 0], .bool true]) ∧ Below w.heap.size w w' := by
  have HC : Hid (∀ W : World, Calls Tryz.prog 173 #[.agg #[.int .i64 3, .int .i64 0, .int .i64 0, .string ⟨#[]⟩, .bool b, .int .i64 0]] W fun x w' => x = .returned (sL (trL b)) ∧ Below W.heap.size W w') := Lib.hid (fun W => text_bool b); obtain ⟨V, hV⟩ : ∃ V, sL (trL b) = V := ⟨_, rfl⟩
  rw [hV] at HC ⊢; clear hV; have HB := Lib.hid ((sb1 w 32 #[.int .i64 3, .int .i64 0, .int .i64 0, .string ⟨#[]⟩, .bool b, .int .i64 0]).push (by simp) 32 #[.int .i64 0, .int .i64 0, .int .i64 0, .string ⟨#[]⟩, .bool false, .int .i64 0]); go_enter Tryz.func111, Tryz.ntmps111
  go_wp2_with fail
  refine (HC.out _).mono ?_; rintro e w1 ⟨rfl, hb⟩; have hB := HB.out.call hb; have hF := hB.put6 (i := 0) rfl (by omega) (by simp [butBox] <;> omega) (.int .i64 0 : Value) (.int .i64 0 : Value) (.int .i64 0 : Value) (.string ⟨#[]⟩ : Value) (.bool false : Value) (.int .i64 0 : Value); have hbel := hF.bel; have kr := hB.box (i := 0) rfl; have cr0 := kr.cell 0; have zr0 := kr.frozen 0; have cr1 := kr.cell 1; have zr1 := kr.frozen 1; have cr2 := kr.cell 2; have zr2 := kr.frozen 2; have cr3 := kr.cell 3; have zr3 := kr.frozen 3; have cr4 := kr.cell 4; have zr4 := kr.frozen 4; have cr5 := kr.cell 5; have zr5 := kr.frozen 5; clear kr; clear hb HB HC hB hF; go_wp2; refine bodyPost_ret (v := .tuple #[V, .agg #[.int .i64 0, .int .i64 0, .int .i64 0, .string ⟨#[]⟩, .bool false, .int .i64 0], .bool true]) ?_ rfl ⟨rfl, hbel⟩; simp [results, Tryz.results111, go_sem, cr0, cr1, cr2, cr3, cr4, cr5]
set_option maxRecDepth 20000 in
theorem words_num {w : World} {m : Int} {s : Nat} (HT : Tens w) (h : Gd m s) :
    Calls Tryz.prog 111 #[.agg #[.int .i64 1, .int .i64 m, .int .i64 (s : Nat), .string ⟨#[]⟩, .bool false, .int .i64 0]] w fun x w' => x = .returned (.tuple #[sL (decTx m s), .agg #[.int .i64 0, .int .i64 0, .int .i64 0, .string ⟨#[]⟩, .bool false, .int .i64 0], .bool true]) ∧ Below w.heap.size w w' := by
  have HC : Hid (∀ W : World, Below w.heap.size w W → Calls Tryz.prog 173 #[.agg #[.int .i64 1, .int .i64 m, .int .i64 (s : Nat), .string ⟨#[]⟩, .bool false, .int .i64 0]] W fun x w' => x = .returned (sL (decTx m s)) ∧ Below W.heap.size W w') := Lib.hid (fun W hb => text_num (HT.below hb) h); clear HT; obtain ⟨V, hV⟩ : ∃ V, sL (decTx m s) = V := ⟨_, rfl⟩
  rw [hV] at HC ⊢; clear hV; have HB := Lib.hid ((sb1 w 32 #[.int .i64 1, .int .i64 m, .int .i64 (s : Nat), .string ⟨#[]⟩, .bool false, .int .i64 0]).push (by simp) 32 #[.int .i64 0, .int .i64 0, .int .i64 0, .string ⟨#[]⟩, .bool false, .int .i64 0]); go_enter Tryz.func111, Tryz.ntmps111
  go_wp2_with fail
  refine (HC.out _ HB.out.bel).mono ?_; rintro e w1 ⟨rfl, hb⟩; have hB := HB.out.call hb; have hF := hB.put6 (i := 0) rfl (by omega) (by simp [butBox] <;> omega) (.int .i64 0 : Value) (.int .i64 0 : Value) (.int .i64 0 : Value) (.string ⟨#[]⟩ : Value) (.bool false : Value) (.int .i64 0 : Value); have hbel := hF.bel; have kr := hB.box (i := 0) rfl; have cr0 := kr.cell 0; have zr0 := kr.frozen 0; have cr1 := kr.cell 1; have zr1 := kr.frozen 1; have cr2 := kr.cell 2; have zr2 := kr.frozen 2; have cr3 := kr.cell 3; have zr3 := kr.frozen 3; have cr4 := kr.cell 4; have zr4 := kr.frozen 4; have cr5 := kr.cell 5; have zr5 := kr.frozen 5; clear kr; clear hb HB HC hB hF; go_wp2; refine bodyPost_ret (v := .tuple #[V, .agg #[.int .i64 0, .int .i64 0, .int .i64 0, .string ⟨#[]⟩, .bool false, .int .i64 0], .bool true]) ?_ rfl ⟨rfl, hbel⟩; simp [results, Tryz.results111, go_sem, cr0, cr1, cr2, cr3, cr4, cr5]
set_option maxRecDepth 20000 in
theorem words_err {w : World} (e : Int) :
    Calls Tryz.prog 111 #[.agg #[.int .i64 4, .int .i64 0, .int .i64 0, .string ⟨#[]⟩, .bool false, .int .i64 e]] w fun x w' => x = .returned (.tuple #[.string ⟨#[]⟩, .agg #[.int .i64 4, .int .i64 0, .int .i64 0, .string ⟨#[]⟩, .bool false, .int .i64 e], .bool false]) ∧ Below w.heap.size w w' := by
  have HB := Lib.hid ((sb1 w 32 #[.int .i64 4, .int .i64 0, .int .i64 0, .string ⟨#[]⟩, .bool false, .int .i64 e]).push (by simp) 32 #[.int .i64 0, .int .i64 0, .int .i64 0, .string ⟨#[]⟩, .bool false, .int .i64 0]); go_enter Tryz.func111, Tryz.ntmps111
  go_wp2_with fail
  refine wp_region_phases (S := (fun vals W => SX w 2 ([.put 0 #[.int .i64 4, .int .i64 0, .int .i64 0, .string ⟨#[]⟩, .bool false, .int .i64 e]] : List Stp) vals ([(w.heap.size + 1, 32, #[.int .i64 0, .int .i64 0, .int .i64 0, .string ⟨#[]⟩, .bool false, .int .i64 0]), (w.heap.size, 32, #[.int .i64 4, .int .i64 0, .int .i64 0, .string ⟨#[]⟩, .bool false, .int .i64 e])] : List (Nat × TypeId × Array Value)) W)) (E := (fun _ _ => True)) [2] [(1, Is (.pointer (some ⟨w.heap.size, 0, none⟩))), (3, Is (.pointer (some ⟨w.heap.size + 1, 0, none⟩)))] [(8, Is (.agg #[.int .i64 4, .int .i64 0, .int .i64 0, .string ⟨#[]⟩, .bool false, .int .i64 e])), (2, Is (.string ⟨#[]⟩)), (4, Is (.bool false))]
    [.op [1] none, .op [] none, .phase 0 [3, 8] [], .op [] none] (by as_aux_lemma => kernel_rfl) ?_ ?_ ?_ ?_ ?_ ⟨stable_is _ _, stable_is _ _, stable_is _ _, stable_is _ _, stable_is _ _, trivial⟩ ?_ (HB.out.drew) ?_ ?_
  · as_aux_lemma => kernel_rfl
  · as_aux_lemma => kernel_rfl
  · as_aux_lemma => kernel_rfl
  · as_aux_lemma => kernel_rfl
  · as_aux_lemma => kernel_rfl
  · exact ⟨rfl, rfl, trivial⟩
  · refine ⟨?_, ?_, ?_, ?_, trivial⟩
    · as_aux_lemma => intro vals a W hS hL; have e1 : a.tmps.getD 1 undef = .pointer (some ⟨w.heap.size, 0, none⟩) := hL.1; clear hL; have kb : Bk W (w.heap.size) 32 #[.int .i64 4, .int .i64 0, .int .i64 0, .string ⟨#[]⟩, .bool false, .int .i64 e] := hS.bk 1 rfl rfl; have f0 := kb.cell 0; have f1 := kb.cell 1; have f2 := kb.cell 2; have f3 := kb.cell 3; have f4 := kb.cell 4; have f5 := kb.cell 5; clear kb; go_simp; exact ⟨dstY (by rfl), hS, trivial⟩
    · as_aux_lemma => intro vals a W hS hL; clear hL; go_simp; exact ⟨dstY (by rfl), hS, trivial⟩
    · skip
      intro a W vals hv hS hL hp; have e3 : a.tmps.getD 3 undef = .pointer (some ⟨w.heap.size + 1, 0, none⟩) := hL.1; have e8 : a.tmps.getD 8 undef = .agg #[.int .i64 4, .int .i64 0, .int .i64 0, .string ⟨#[]⟩, .bool false, .int .i64 e] := hL.2.1; clear hL
      match vals, hv, hS with
      | [], _, hS =>
        have hS2 : SX w 2 ([.put 0 #[.int .i64 4, .int .i64 0, .int .i64 0, .string ⟨#[]⟩, .bool false, .int .i64 e]] : List Stp) [] ([(w.heap.size + 1, 32, #[.int .i64 0, .int .i64 0, .int .i64 0, .string ⟨#[]⟩, .bool false, .int .i64 0]), (w.heap.size, 32, #[.int .i64 4, .int .i64 0, .int .i64 0, .string ⟨#[]⟩, .bool false, .int .i64 e])] : List (Nat × TypeId × Array Value)) W := hS; clear hS; have hB0 := hS2; have hB : SB w 2 ([(w.heap.size + 1, 32, #[.int .i64 0, .int .i64 0, .int .i64 0, .string ⟨#[]⟩, .bool false, .int .i64 0]), (w.heap.size, 32, #[.int .i64 4, .int .i64 0, .int .i64 0, .string ⟨#[]⟩, .bool false, .int .i64 e])] : List (Nat × TypeId × Array Value)) W := hB0; clear hB0; rw [Array.getD_eq_getD_getElem?] at e8; have kz := hB.box (i := 0) rfl; have z0 := kz.frozen 0; have q0 := kz.cell 0; have z1 := kz.frozen 1; have q1 := kz.cell 1; have z2 := kz.frozen 2; have q2 := kz.cell 2; have z3 := kz.frozen 3; have q3 := kz.cell 3; have z4 := kz.frozen 4; have q4 := kz.cell 4; have z5 := kz.frozen 5; have q5 := kz.cell 5; have hge : w.heap.size ≤ (w.heap.size + 1) := by omega
        have hne : ∀ qx ∈ butBox ([(w.heap.size + 1, 32, #[.int .i64 0, .int .i64 0, .int .i64 0, .string ⟨#[]⟩, .bool false, .int .i64 0]), (w.heap.size, 32, #[.int .i64 4, .int .i64 0, .int .i64 0, .string ⟨#[]⟩, .bool false, .int .i64 e])] : List (Nat × TypeId × Array Value)) 0, qx.1 ≠ (w.heap.size + 1) := by simp [butBox] <;> omega
        have hF := hB.put6 (i := 0) rfl hge hne (.int .i64 4 : Value) (.int .i64 0 : Value) (.int .i64 0 : Value) (.string ⟨#[]⟩ : Value) (.bool false : Value) (.int .i64 e : Value); clear kz hB hne hge; go_simp; exact ⟨hF, trivial, trivial⟩
    · as_aux_lemma => intro vals a W hS hL; clear hL; go_simp; exact ⟨dstY (by rfl), hS, trivial⟩
  · intro a W' vals hd hsz hT hF hv hP hS
    obtain ⟨v0, rfl⟩ : ∃ v0, vals = [v0] := by
      match vals, hv with
      | [v0], _ => exact ⟨v0, rfl⟩
    have hS2 : SX w 2 ([.put 0 #[.int .i64 4, .int .i64 0, .int .i64 0, .string ⟨#[]⟩, .bool false, .int .i64 e]] : List Stp) [v0] ([(w.heap.size + 1, 32, #[.int .i64 0, .int .i64 0, .int .i64 0, .string ⟨#[]⟩, .bool false, .int .i64 0]), (w.heap.size, 32, #[.int .i64 4, .int .i64 0, .int .i64 0, .string ⟨#[]⟩, .bool false, .int .i64 e])] : List (Nat × TypeId × Array Value)) W' := hS; clear hS; have hB0 := hS2; have hB : SB w 2 ([(w.heap.size + 1, 32, #[.int .i64 4, .int .i64 0, .int .i64 0, .string ⟨#[]⟩, .bool false, .int .i64 e]), (w.heap.size, 32, #[.int .i64 4, .int .i64 0, .int .i64 0, .string ⟨#[]⟩, .bool false, .int .i64 e])] : List (Nat × TypeId × Array Value)) W' := hB0; clear hB0; have kz0 := hB.box (i := 0) rfl; have r0_0 := kz0.cell 0; have r0_1 := kz0.cell 1; have r0_2 := kz0.cell 2; have r0_3 := kz0.cell 3; have r0_4 := kz0.cell 4; have r0_5 := kz0.cell 5; clear kz0; have e2 : a.tmps.getD 2 undef = .string ⟨#[]⟩ := hT 2 (by simp); have e3 : a.tmps.getD 3 undef = .pointer (some ⟨w.heap.size + 1, 0, none⟩) := hT 3 (by simp); have e4 : a.tmps.getD 4 undef = .bool false := hT 4 (by simp); clear hT hF hP; go_wp2; refine bodyPost_ret (v := .tuple #[.string ⟨#[]⟩, .agg #[.int .i64 4, .int .i64 0, .int .i64 0, .string ⟨#[]⟩, .bool false, .int .i64 e], .bool false]) ?_ hd ⟨rfl, hB.bel⟩; rw [Array.getD_eq_getD_getElem?] at e2 e3 e4; simp [results, Tryz.results111, go_sem, e2, e3, e4, r0_0, r0_1, r0_2, r0_3, r0_4, r0_5]
set_option maxRecDepth 20000 in
theorem truth_blank {w : World} :
    Calls Tryz.prog 110 #[.agg #[.int .i64 0, .int .i64 0, .int .i64 0, .string ⟨#[]⟩, .bool false, .int .i64 0]] w fun x w' => x = .returned (.tuple #[.bool false, .agg #[.int .i64 0, .int .i64 0, .int .i64 0, .string ⟨#[]⟩, .bool false, .int .i64 0], .bool true]) ∧ Below w.heap.size w w' := by
  go_enter Tryz.func110, Tryz.ntmps110; go_wp2; exact bodyPost_ret (v := .tuple #[.bool false, .agg #[.int .i64 0, .int .i64 0, .int .i64 0, .string ⟨#[]⟩, .bool false, .int .i64 0], .bool true]) (by simp [results, Tryz.results110, go_sem]) rfl ⟨rfl, bel1 _ _ _⟩
set_option maxRecDepth 20000 in
theorem truth_num0 {w : World} (s : Int) :
    Calls Tryz.prog 110 #[.agg #[.int .i64 1, .int .i64 0, .int .i64 s, .string ⟨#[]⟩, .bool false, .int .i64 0]] w fun x w' => x = .returned (.tuple #[.bool false, .agg #[.int .i64 0, .int .i64 0, .int .i64 0, .string ⟨#[]⟩, .bool false, .int .i64 0], .bool true]) ∧ Below w.heap.size w w' := by
  go_enter Tryz.func110, Tryz.ntmps110; go_wp2; exact bodyPost_ret (v := .tuple #[.bool false, .agg #[.int .i64 0, .int .i64 0, .int .i64 0, .string ⟨#[]⟩, .bool false, .int .i64 0], .bool true]) (by simp [results, Tryz.results110, go_sem]) rfl ⟨rfl, bel1 _ _ _⟩
set_option maxRecDepth 20000 in
theorem truth_numn {w : World} (m s : Int) (h : ¬ m = 0) :
    Calls Tryz.prog 110 #[.agg #[.int .i64 1, .int .i64 m, .int .i64 s, .string ⟨#[]⟩, .bool false, .int .i64 0]] w fun x w' => x = .returned (.tuple #[.bool true, .agg #[.int .i64 0, .int .i64 0, .int .i64 0, .string ⟨#[]⟩, .bool false, .int .i64 0], .bool true]) ∧ Below w.heap.size w w' := by
  go_enter Tryz.func110, Tryz.ntmps110; go_wp2; exact bodyPost_ret (v := .tuple #[.bool true, .agg #[.int .i64 0, .int .i64 0, .int .i64 0, .string ⟨#[]⟩, .bool false, .int .i64 0], .bool true]) (by simp [results, Tryz.results110, go_sem]; exact h) rfl ⟨rfl, bel1 _ _ _⟩
set_option maxRecDepth 20000 in
theorem truth_yes {w : World} :
    Calls Tryz.prog 110 #[.agg #[.int .i64 2, .int .i64 0, .int .i64 0, .string ⟨#[84, 82, 85, 69]⟩, .bool false, .int .i64 0]] w fun x w' => x = .returned (.tuple #[.bool true, .agg #[.int .i64 0, .int .i64 0, .int .i64 0, .string ⟨#[]⟩, .bool false, .int .i64 0], .bool true]) ∧ Below w.heap.size w w' := by
  go_enter Tryz.func110, Tryz.ntmps110; go_wp2; exact bodyPost_ret (v := .tuple #[.bool true, .agg #[.int .i64 0, .int .i64 0, .int .i64 0, .string ⟨#[]⟩, .bool false, .int .i64 0], .bool true]) (by simp [results, Tryz.results110, go_sem]) rfl ⟨rfl, bel1 _ _ _⟩
set_option maxRecDepth 20000 in
theorem truth_no {w : World} :
    Calls Tryz.prog 110 #[.agg #[.int .i64 2, .int .i64 0, .int .i64 0, .string ⟨#[70, 65, 76, 83, 69]⟩, .bool false, .int .i64 0]] w fun x w' => x = .returned (.tuple #[.bool false, .agg #[.int .i64 0, .int .i64 0, .int .i64 0, .string ⟨#[]⟩, .bool false, .int .i64 0], .bool true]) ∧ Below w.heap.size w w' := by
  go_enter Tryz.func110, Tryz.ntmps110; go_wp2; exact bodyPost_ret (v := .tuple #[.bool false, .agg #[.int .i64 0, .int .i64 0, .int .i64 0, .string ⟨#[]⟩, .bool false, .int .i64 0], .bool true]) (by simp [results, Tryz.results110, go_sem]) rfl ⟨rfl, bel1 _ _ _⟩
set_option maxRecDepth 20000 in
theorem truth_bool {w : World} (b : Bool) :
    Calls Tryz.prog 110 #[.agg #[.int .i64 3, .int .i64 0, .int .i64 0, .string ⟨#[]⟩, .bool b, .int .i64 0]] w fun x w' => x = .returned (.tuple #[.bool b, .agg #[.int .i64 0, .int .i64 0, .int .i64 0, .string ⟨#[]⟩, .bool false, .int .i64 0], .bool true]) ∧ Below w.heap.size w w' := by
  go_enter Tryz.func110, Tryz.ntmps110; go_wp2; exact bodyPost_ret (v := .tuple #[.bool b, .agg #[.int .i64 0, .int .i64 0, .int .i64 0, .string ⟨#[]⟩, .bool false, .int .i64 0], .bool true]) (by simp [results, Tryz.results110, go_sem]) rfl ⟨rfl, bel1 _ _ _⟩
set_option maxRecDepth 20000 in
theorem truth_err {w : World} (e : Int) :
    Calls Tryz.prog 110 #[.agg #[.int .i64 4, .int .i64 0, .int .i64 0, .string ⟨#[]⟩, .bool false, .int .i64 e]] w fun x w' => x = .returned (.tuple #[.bool false, .agg #[.int .i64 4, .int .i64 0, .int .i64 0, .string ⟨#[]⟩, .bool false, .int .i64 e], .bool false]) ∧ Below w.heap.size w w' := by
  have HB := Lib.hid ((sb1 w 32 #[.int .i64 4, .int .i64 0, .int .i64 0, .string ⟨#[]⟩, .bool false, .int .i64 e]).push (by simp) 32 #[.int .i64 0, .int .i64 0, .int .i64 0, .string ⟨#[]⟩, .bool false, .int .i64 0]); go_enter Tryz.func110, Tryz.ntmps110
  go_wp2_with fail
  refine wp_region_phases (S := (fun vals W => SX w 2 ([.put 0 #[.int .i64 4, .int .i64 0, .int .i64 0, .string ⟨#[]⟩, .bool false, .int .i64 e]] : List Stp) vals ([(w.heap.size + 1, 32, #[.int .i64 0, .int .i64 0, .int .i64 0, .string ⟨#[]⟩, .bool false, .int .i64 0]), (w.heap.size, 32, #[.int .i64 4, .int .i64 0, .int .i64 0, .string ⟨#[]⟩, .bool false, .int .i64 e])] : List (Nat × TypeId × Array Value)) W)) (E := (fun _ _ => True)) [2] [(1, Is (.pointer (some ⟨w.heap.size, 0, none⟩))), (3, Is (.pointer (some ⟨w.heap.size + 1, 0, none⟩)))] [(38, Is (.agg #[.int .i64 4, .int .i64 0, .int .i64 0, .string ⟨#[]⟩, .bool false, .int .i64 e])), (2, Is (.bool false)), (4, Is (.bool false))]
    [.op [1] none, .op [] none, .phase 0 [3, 38] [], .op [] none] (by as_aux_lemma => kernel_rfl) ?_ ?_ ?_ ?_ ?_ ⟨stable_is _ _, stable_is _ _, stable_is _ _, stable_is _ _, stable_is _ _, trivial⟩ ?_ (HB.out.drew) ?_ ?_
  · as_aux_lemma => kernel_rfl
  · as_aux_lemma => kernel_rfl
  · as_aux_lemma => kernel_rfl
  · as_aux_lemma => kernel_rfl
  · as_aux_lemma => kernel_rfl
  · exact ⟨rfl, rfl, trivial⟩
  · refine ⟨?_, ?_, ?_, ?_, trivial⟩
    · as_aux_lemma => intro vals a W hS hL; have e1 : a.tmps.getD 1 undef = .pointer (some ⟨w.heap.size, 0, none⟩) := hL.1; clear hL; have kb : Bk W (w.heap.size) 32 #[.int .i64 4, .int .i64 0, .int .i64 0, .string ⟨#[]⟩, .bool false, .int .i64 e] := hS.bk 1 rfl rfl; have f0 := kb.cell 0; have f1 := kb.cell 1; have f2 := kb.cell 2; have f3 := kb.cell 3; have f4 := kb.cell 4; have f5 := kb.cell 5; clear kb; go_simp; exact ⟨dstY (by rfl), hS, trivial⟩
    · as_aux_lemma => intro vals a W hS hL; clear hL; go_simp; exact ⟨dstY (by rfl), hS, trivial⟩
    · skip
      intro a W vals hv hS hL hp; have e3 : a.tmps.getD 3 undef = .pointer (some ⟨w.heap.size + 1, 0, none⟩) := hL.1; have e38 : a.tmps.getD 38 undef = .agg #[.int .i64 4, .int .i64 0, .int .i64 0, .string ⟨#[]⟩, .bool false, .int .i64 e] := hL.2.1; clear hL
      match vals, hv, hS with
      | [], _, hS =>
        have hS2 : SX w 2 ([.put 0 #[.int .i64 4, .int .i64 0, .int .i64 0, .string ⟨#[]⟩, .bool false, .int .i64 e]] : List Stp) [] ([(w.heap.size + 1, 32, #[.int .i64 0, .int .i64 0, .int .i64 0, .string ⟨#[]⟩, .bool false, .int .i64 0]), (w.heap.size, 32, #[.int .i64 4, .int .i64 0, .int .i64 0, .string ⟨#[]⟩, .bool false, .int .i64 e])] : List (Nat × TypeId × Array Value)) W := hS; clear hS; have hB0 := hS2; have hB : SB w 2 ([(w.heap.size + 1, 32, #[.int .i64 0, .int .i64 0, .int .i64 0, .string ⟨#[]⟩, .bool false, .int .i64 0]), (w.heap.size, 32, #[.int .i64 4, .int .i64 0, .int .i64 0, .string ⟨#[]⟩, .bool false, .int .i64 e])] : List (Nat × TypeId × Array Value)) W := hB0; clear hB0; rw [Array.getD_eq_getD_getElem?] at e38; have kz := hB.box (i := 0) rfl; have z0 := kz.frozen 0; have q0 := kz.cell 0; have z1 := kz.frozen 1; have q1 := kz.cell 1; have z2 := kz.frozen 2; have q2 := kz.cell 2; have z3 := kz.frozen 3; have q3 := kz.cell 3; have z4 := kz.frozen 4; have q4 := kz.cell 4; have z5 := kz.frozen 5; have q5 := kz.cell 5; have hge : w.heap.size ≤ (w.heap.size + 1) := by omega
        have hne : ∀ qx ∈ butBox ([(w.heap.size + 1, 32, #[.int .i64 0, .int .i64 0, .int .i64 0, .string ⟨#[]⟩, .bool false, .int .i64 0]), (w.heap.size, 32, #[.int .i64 4, .int .i64 0, .int .i64 0, .string ⟨#[]⟩, .bool false, .int .i64 e])] : List (Nat × TypeId × Array Value)) 0, qx.1 ≠ (w.heap.size + 1) := by simp [butBox] <;> omega
        have hF := hB.put6 (i := 0) rfl hge hne (.int .i64 4 : Value) (.int .i64 0 : Value) (.int .i64 0 : Value) (.string ⟨#[]⟩ : Value) (.bool false : Value) (.int .i64 e : Value); clear kz hB hne hge; go_simp; exact ⟨hF, trivial, trivial⟩
    · as_aux_lemma => intro vals a W hS hL; clear hL; go_simp; exact ⟨dstY (by rfl), hS, trivial⟩
  · intro a W' vals hd hsz hT hF hv hP hS
    obtain ⟨v0, rfl⟩ : ∃ v0, vals = [v0] := by
      match vals, hv with
      | [v0], _ => exact ⟨v0, rfl⟩
    have hS2 : SX w 2 ([.put 0 #[.int .i64 4, .int .i64 0, .int .i64 0, .string ⟨#[]⟩, .bool false, .int .i64 e]] : List Stp) [v0] ([(w.heap.size + 1, 32, #[.int .i64 0, .int .i64 0, .int .i64 0, .string ⟨#[]⟩, .bool false, .int .i64 0]), (w.heap.size, 32, #[.int .i64 4, .int .i64 0, .int .i64 0, .string ⟨#[]⟩, .bool false, .int .i64 e])] : List (Nat × TypeId × Array Value)) W' := hS; clear hS; have hB0 := hS2; have hB : SB w 2 ([(w.heap.size + 1, 32, #[.int .i64 4, .int .i64 0, .int .i64 0, .string ⟨#[]⟩, .bool false, .int .i64 e]), (w.heap.size, 32, #[.int .i64 4, .int .i64 0, .int .i64 0, .string ⟨#[]⟩, .bool false, .int .i64 e])] : List (Nat × TypeId × Array Value)) W' := hB0; clear hB0; have kz0 := hB.box (i := 0) rfl; have r0_0 := kz0.cell 0; have r0_1 := kz0.cell 1; have r0_2 := kz0.cell 2; have r0_3 := kz0.cell 3; have r0_4 := kz0.cell 4; have r0_5 := kz0.cell 5; clear kz0; have e2 : a.tmps.getD 2 undef = .bool false := hT 2 (by simp); have e3 : a.tmps.getD 3 undef = .pointer (some ⟨w.heap.size + 1, 0, none⟩) := hT 3 (by simp); have e4 : a.tmps.getD 4 undef = .bool false := hT 4 (by simp); clear hT hF hP; go_wp2; refine bodyPost_ret (v := .tuple #[.bool false, .agg #[.int .i64 4, .int .i64 0, .int .i64 0, .string ⟨#[]⟩, .bool false, .int .i64 e], .bool false]) ?_ hd ⟨rfl, hB.bel⟩; rw [Array.getD_eq_getD_getElem?] at e2 e3 e4; simp [results, Tryz.results110, go_sem, e2, e3, e4, r0_0, r0_1, r0_2, r0_3, r0_4, r0_5]
set_option maxRecDepth 20000 in
theorem truth_none {w : World} (t : ByteArray) (h1 : (t.toList == [84, 82, 85, 69]) = false) (h2 : (t.toList == [70, 65, 76, 83, 69]) = false) :
    Calls Tryz.prog 110 #[.agg #[.int .i64 2, .int .i64 0, .int .i64 0, .string t, .bool false, .int .i64 0]] w fun x w' => x = .returned (.tuple #[.bool false, .agg #[.int .i64 4, .int .i64 0, .int .i64 0, .string ⟨#[]⟩, .bool false, .int .i64 15], .bool false]) ∧ Below w.heap.size w w' := by
  have HX := Lib.hid (fun W : World => fault_any (w := W) 15); have HB := Lib.hid ((sb1 w 32 #[.int .i64 2, .int .i64 0, .int .i64 0, .string t, .bool false, .int .i64 0]).push (by simp) 32 #[.int .i64 0, .int .i64 0, .int .i64 0, .string ⟨#[]⟩, .bool false, .int .i64 0]); go_enter Tryz.func110, Tryz.ntmps110
  go_wp2_with fail
  refine (HX.out _).mono ?_; rintro e w9 ⟨rfl, hb⟩; have hB := HB.out.call hb; have hF := hB.put6 (i := 0) rfl (by omega) (by simp [butBox] <;> omega) (.int .i64 4 : Value) (.int .i64 0 : Value) (.int .i64 0 : Value) (.string ⟨#[]⟩ : Value) (.bool false : Value) (.int .i64 15 : Value); have hbel := hF.bel; have kr := hB.box (i := 0) rfl; have cr0 := kr.cell 0; have zr0 := kr.frozen 0; have cr1 := kr.cell 1; have zr1 := kr.frozen 1; have cr2 := kr.cell 2; have zr2 := kr.frozen 2; have cr3 := kr.cell 3; have zr3 := kr.frozen 3; have cr4 := kr.cell 4; have zr4 := kr.frozen 4; have cr5 := kr.cell 5; have zr5 := kr.frozen 5; clear kr; clear hb HB HX hB hF; go_wp2; refine bodyPost_ret (v := .tuple #[.bool false, .agg #[.int .i64 4, .int .i64 0, .int .i64 0, .string ⟨#[]⟩, .bool false, .int .i64 15], .bool false]) ?_ rfl ⟨rfl, hbel⟩; simp [results, Tryz.results110, go_sem, cr0, cr1, cr2, cr3, cr4, cr5]
set_option maxRecDepth 20000 in
theorem number_blank {w : World} :
    Calls Tryz.prog 109 #[.agg #[.int .i64 0, .int .i64 0, .int .i64 0, .string ⟨#[]⟩, .bool false, .int .i64 0]] w fun x w' => x = .returned (.tuple #[.agg #[.int .i64 0, .int .i64 0], .agg #[.int .i64 0, .int .i64 0, .int .i64 0, .string ⟨#[]⟩, .bool false, .int .i64 0], .bool true]) ∧ Below w.heap.size w w' := by
  go_enter Tryz.func109, Tryz.ntmps109; go_wp2; exact bodyPost_ret (v := .tuple #[.agg #[.int .i64 0, .int .i64 0], .agg #[.int .i64 0, .int .i64 0, .int .i64 0, .string ⟨#[]⟩, .bool false, .int .i64 0], .bool true]) (by simp [results, Tryz.results109, go_sem]) rfl ⟨rfl, bel2 _ _ _ _⟩
set_option maxRecDepth 20000 in
theorem number_num {w : World} (m s : Int) :
    Calls Tryz.prog 109 #[.agg #[.int .i64 1, .int .i64 m, .int .i64 s, .string ⟨#[]⟩, .bool false, .int .i64 0]] w fun x w' => x = .returned (.tuple #[.agg #[.int .i64 m, .int .i64 s], .agg #[.int .i64 0, .int .i64 0, .int .i64 0, .string ⟨#[]⟩, .bool false, .int .i64 0], .bool true]) ∧ Below w.heap.size w w' := by
  go_enter Tryz.func109, Tryz.ntmps109; go_wp2; exact bodyPost_ret (v := .tuple #[.agg #[.int .i64 m, .int .i64 s], .agg #[.int .i64 0, .int .i64 0, .int .i64 0, .string ⟨#[]⟩, .bool false, .int .i64 0], .bool true]) (by simp [results, Tryz.results109, go_sem]) rfl ⟨rfl, bel2 _ _ _ _⟩
set_option maxRecDepth 20000 in
theorem number_err {w : World} (e : Int) :
    Calls Tryz.prog 109 #[.agg #[.int .i64 4, .int .i64 0, .int .i64 0, .string ⟨#[]⟩, .bool false, .int .i64 e]] w fun x w' => x = .returned (.tuple #[.agg #[.int .i64 0, .int .i64 0], .agg #[.int .i64 4, .int .i64 0, .int .i64 0, .string ⟨#[]⟩, .bool false, .int .i64 e], .bool false]) ∧ Below w.heap.size w w' := by
  have HB := Lib.hid (((sb1 w 32 #[.int .i64 4, .int .i64 0, .int .i64 0, .string ⟨#[]⟩, .bool false, .int .i64 e]).push (by simp) 30 #[.int .i64 0, .int .i64 0]).push (by simp) 32 #[.int .i64 0, .int .i64 0, .int .i64 0, .string ⟨#[]⟩, .bool false, .int .i64 0]); go_enter Tryz.func109, Tryz.ntmps109
  go_wp2_with fail
  refine wp_region_phases (S := (fun vals W => SX w 3 ([.put 1 #[.int .i64 0, .int .i64 0], .put 0 #[.int .i64 4, .int .i64 0, .int .i64 0, .string ⟨#[]⟩, .bool false, .int .i64 e]] : List Stp) vals ([(w.heap.size + 2, 32, #[.int .i64 0, .int .i64 0, .int .i64 0, .string ⟨#[]⟩, .bool false, .int .i64 0]), (w.heap.size + 1, 30, #[.int .i64 0, .int .i64 0]), (w.heap.size, 32, #[.int .i64 4, .int .i64 0, .int .i64 0, .string ⟨#[]⟩, .bool false, .int .i64 e])] : List (Nat × TypeId × Array Value)) W)) (E := (fun _ _ => True)) [2, 3] [(1, Is (.pointer (some ⟨w.heap.size, 0, none⟩))), (3, Is (.pointer (some ⟨w.heap.size + 2, 0, none⟩))), (2, Is (.pointer (some ⟨w.heap.size + 1, 0, none⟩)))] [(39, Is (.agg #[.int .i64 0, .int .i64 0])), (40, Is (.agg #[.int .i64 4, .int .i64 0, .int .i64 0, .string ⟨#[]⟩, .bool false, .int .i64 e])), (4, Is (.bool false))]
    [.op [] none, .op [1] none, .phase 0 [2, 39] [], .phase 1 [3, 40] [], .op [] none] (by as_aux_lemma => kernel_rfl) ?_ ?_ ?_ ?_ ?_ ⟨stable_is _ _, stable_is _ _, stable_is _ _, stable_is _ _, stable_is _ _, stable_is _ _, trivial⟩ ?_ (HB.out.drew) ?_ ?_
  · as_aux_lemma => kernel_rfl
  · as_aux_lemma => kernel_rfl
  · as_aux_lemma => kernel_rfl
  · as_aux_lemma => kernel_rfl
  · as_aux_lemma => kernel_rfl
  · exact ⟨rfl, rfl, rfl, trivial⟩
  · refine ⟨?_, ?_, ?_, ?_, ?_, trivial⟩
    · as_aux_lemma => intro vals a W hS hL; clear hL; go_simp; exact ⟨dstY (by rfl), hS, trivial⟩
    · as_aux_lemma => intro vals a W hS hL; have e1 : a.tmps.getD 1 undef = .pointer (some ⟨w.heap.size, 0, none⟩) := hL.1; clear hL; have kb : Bk W (w.heap.size) 32 #[.int .i64 4, .int .i64 0, .int .i64 0, .string ⟨#[]⟩, .bool false, .int .i64 e] := hS.bk 2 rfl rfl; have f0 := kb.cell 0; have f1 := kb.cell 1; have f2 := kb.cell 2; have f3 := kb.cell 3; have f4 := kb.cell 4; have f5 := kb.cell 5; clear kb; go_simp; exact ⟨dstY (by rfl), hS, trivial⟩
    · as_aux_lemma =>
        intro a W vals hv hS hL hp; have e2 : a.tmps.getD 2 undef = .pointer (some ⟨w.heap.size + 1, 0, none⟩) := hL.1; have e39 : a.tmps.getD 39 undef = .agg #[.int .i64 0, .int .i64 0] := hL.2.1; clear hL
        match vals, hv, hS with
        | [], _, hS =>
          have hS2 : SX w 3 ([.put 1 #[.int .i64 0, .int .i64 0], .put 0 #[.int .i64 4, .int .i64 0, .int .i64 0, .string ⟨#[]⟩, .bool false, .int .i64 e]] : List Stp) [] ([(w.heap.size + 2, 32, #[.int .i64 0, .int .i64 0, .int .i64 0, .string ⟨#[]⟩, .bool false, .int .i64 0]), (w.heap.size + 1, 30, #[.int .i64 0, .int .i64 0]), (w.heap.size, 32, #[.int .i64 4, .int .i64 0, .int .i64 0, .string ⟨#[]⟩, .bool false, .int .i64 e])] : List (Nat × TypeId × Array Value)) W := hS; clear hS; have hB0 := hS2; have hB : SB w 3 ([(w.heap.size + 2, 32, #[.int .i64 0, .int .i64 0, .int .i64 0, .string ⟨#[]⟩, .bool false, .int .i64 0]), (w.heap.size + 1, 30, #[.int .i64 0, .int .i64 0]), (w.heap.size, 32, #[.int .i64 4, .int .i64 0, .int .i64 0, .string ⟨#[]⟩, .bool false, .int .i64 e])] : List (Nat × TypeId × Array Value)) W := hB0; clear hB0; rw [Array.getD_eq_getD_getElem?] at e39; have kz := hB.box (i := 1) rfl; have z0 := kz.frozen 0; have q0 := kz.cell 0; have z1 := kz.frozen 1; have q1 := kz.cell 1; have hge : w.heap.size ≤ (w.heap.size + 1) := by omega
          have hne : ∀ qx ∈ butBox ([(w.heap.size + 2, 32, #[.int .i64 0, .int .i64 0, .int .i64 0, .string ⟨#[]⟩, .bool false, .int .i64 0]), (w.heap.size + 1, 30, #[.int .i64 0, .int .i64 0]), (w.heap.size, 32, #[.int .i64 4, .int .i64 0, .int .i64 0, .string ⟨#[]⟩, .bool false, .int .i64 e])] : List (Nat × TypeId × Array Value)) 1, qx.1 ≠ (w.heap.size + 1) := by simp [butBox] <;> omega
          have hF := hB.put2 (i := 1) rfl hge hne (.int .i64 0 : Value) (.int .i64 0 : Value); clear kz hB hne hge; go_simp; exact ⟨hF, trivial, trivial⟩
    · skip
      intro a W vals hv hS hL hp; have e3 : a.tmps.getD 3 undef = .pointer (some ⟨w.heap.size + 2, 0, none⟩) := hL.1; have e40 : a.tmps.getD 40 undef = .agg #[.int .i64 4, .int .i64 0, .int .i64 0, .string ⟨#[]⟩, .bool false, .int .i64 e] := hL.2.1; clear hL
      match vals, hv, hS with
      | [v0], _, hS =>
        have hS2 : SX w 3 ([.put 1 #[.int .i64 0, .int .i64 0], .put 0 #[.int .i64 4, .int .i64 0, .int .i64 0, .string ⟨#[]⟩, .bool false, .int .i64 e]] : List Stp) [v0] ([(w.heap.size + 2, 32, #[.int .i64 0, .int .i64 0, .int .i64 0, .string ⟨#[]⟩, .bool false, .int .i64 0]), (w.heap.size + 1, 30, #[.int .i64 0, .int .i64 0]), (w.heap.size, 32, #[.int .i64 4, .int .i64 0, .int .i64 0, .string ⟨#[]⟩, .bool false, .int .i64 e])] : List (Nat × TypeId × Array Value)) W := hS; clear hS; have hB0 := hS2; have hB : SB w 3 ([(w.heap.size + 2, 32, #[.int .i64 0, .int .i64 0, .int .i64 0, .string ⟨#[]⟩, .bool false, .int .i64 0]), (w.heap.size + 1, 30, #[.int .i64 0, .int .i64 0]), (w.heap.size, 32, #[.int .i64 4, .int .i64 0, .int .i64 0, .string ⟨#[]⟩, .bool false, .int .i64 e])] : List (Nat × TypeId × Array Value)) W := hB0; clear hB0; rw [Array.getD_eq_getD_getElem?] at e40; have kz := hB.box (i := 0) rfl; have z0 := kz.frozen 0; have q0 := kz.cell 0; have z1 := kz.frozen 1; have q1 := kz.cell 1; have z2 := kz.frozen 2; have q2 := kz.cell 2; have z3 := kz.frozen 3; have q3 := kz.cell 3; have z4 := kz.frozen 4; have q4 := kz.cell 4; have z5 := kz.frozen 5; have q5 := kz.cell 5; have hge : w.heap.size ≤ (w.heap.size + 2) := by omega
        have hne : ∀ qx ∈ butBox ([(w.heap.size + 2, 32, #[.int .i64 0, .int .i64 0, .int .i64 0, .string ⟨#[]⟩, .bool false, .int .i64 0]), (w.heap.size + 1, 30, #[.int .i64 0, .int .i64 0]), (w.heap.size, 32, #[.int .i64 4, .int .i64 0, .int .i64 0, .string ⟨#[]⟩, .bool false, .int .i64 e])] : List (Nat × TypeId × Array Value)) 0, qx.1 ≠ (w.heap.size + 2) := by simp [butBox] <;> omega
        have hF := hB.put6 (i := 0) rfl hge hne (.int .i64 4 : Value) (.int .i64 0 : Value) (.int .i64 0 : Value) (.string ⟨#[]⟩ : Value) (.bool false : Value) (.int .i64 e : Value); clear kz hB hne hge; go_simp; exact ⟨hF, trivial, trivial⟩
    · as_aux_lemma => intro vals a W hS hL; clear hL; go_simp; exact ⟨dstY (by rfl), hS, trivial⟩
  · intro a W' vals hd hsz hT hF hv hP hS
    obtain ⟨v0, v1, rfl⟩ : ∃ v0 v1, vals = [v0, v1] := by
      match vals, hv with
      | [v0, v1], _ => exact ⟨v0, v1, rfl⟩
    have hS2 : SX w 3 ([.put 1 #[.int .i64 0, .int .i64 0], .put 0 #[.int .i64 4, .int .i64 0, .int .i64 0, .string ⟨#[]⟩, .bool false, .int .i64 e]] : List Stp) [v0, v1] ([(w.heap.size + 2, 32, #[.int .i64 0, .int .i64 0, .int .i64 0, .string ⟨#[]⟩, .bool false, .int .i64 0]), (w.heap.size + 1, 30, #[.int .i64 0, .int .i64 0]), (w.heap.size, 32, #[.int .i64 4, .int .i64 0, .int .i64 0, .string ⟨#[]⟩, .bool false, .int .i64 e])] : List (Nat × TypeId × Array Value)) W' := hS; clear hS; have hB0 := hS2; have hB : SB w 3 ([(w.heap.size + 2, 32, #[.int .i64 4, .int .i64 0, .int .i64 0, .string ⟨#[]⟩, .bool false, .int .i64 e]), (w.heap.size + 1, 30, #[.int .i64 0, .int .i64 0]), (w.heap.size, 32, #[.int .i64 4, .int .i64 0, .int .i64 0, .string ⟨#[]⟩, .bool false, .int .i64 e])] : List (Nat × TypeId × Array Value)) W' := hB0; clear hB0; have kz0 := hB.box (i := 0) rfl; have r0_0 := kz0.cell 0; have r0_1 := kz0.cell 1; have r0_2 := kz0.cell 2; have r0_3 := kz0.cell 3; have r0_4 := kz0.cell 4; have r0_5 := kz0.cell 5; clear kz0; have kz1 := hB.box (i := 1) rfl; have r1_0 := kz1.cell 0; have r1_1 := kz1.cell 1; clear kz1; have e2 : a.tmps.getD 2 undef = .pointer (some ⟨w.heap.size + 1, 0, none⟩) := hT 2 (by simp); have e3 : a.tmps.getD 3 undef = .pointer (some ⟨w.heap.size + 2, 0, none⟩) := hT 3 (by simp); have e4 : a.tmps.getD 4 undef = .bool false := hT 4 (by simp); clear hT hF hP; go_wp2; refine bodyPost_ret (v := .tuple #[.agg #[.int .i64 0, .int .i64 0], .agg #[.int .i64 4, .int .i64 0, .int .i64 0, .string ⟨#[]⟩, .bool false, .int .i64 e], .bool false]) ?_ hd ⟨rfl, hB.bel⟩; rw [Array.getD_eq_getD_getElem?] at e2 e3 e4; simp [results, Tryz.results109, go_sem, e2, e3, e4, r0_0, r0_1, r0_2, r0_3, r0_4, r0_5, r1_0, r1_1]
set_option maxRecDepth 20000 in
theorem number_bool {w : World} (b : Bool) :
    Calls Tryz.prog 109 #[.agg #[.int .i64 3, .int .i64 0, .int .i64 0, .string ⟨#[]⟩, .bool b, .int .i64 0]] w fun x w' => x = .returned (.tuple #[.agg #[.int .i64 (rk b), .int .i64 0], .agg #[.int .i64 0, .int .i64 0, .int .i64 0, .string ⟨#[]⟩, .bool false, .int .i64 0], .bool true]) ∧ Below w.heap.size w w' := by
  have H1 := Lib.hid (fun W : World => rank_any (w := W) b); have H2 := Lib.hid (fun W : World => int_any (w := W) (n := rk b)); generalize rk b = r at *; have HB := Lib.hid (((sb1 w 32 #[.int .i64 3, .int .i64 0, .int .i64 0, .string ⟨#[]⟩, .bool b, .int .i64 0]).push (by simp) 30 #[.int .i64 0, .int .i64 0]).push (by simp) 32 #[.int .i64 0, .int .i64 0, .int .i64 0, .string ⟨#[]⟩, .bool false, .int .i64 0]); go_enter Tryz.func109, Tryz.ntmps109
  go_wp2_with fail
  refine (H1.out _).mono ?_; rintro e w1 ⟨rfl, rfl⟩
  go_wp2_with fail
  refine (H2.out _).mono ?_; rintro e w2 ⟨rfl, hb⟩; have hB := HB.out.call hb; have hF1 := hB.put2 (i := 1) rfl (by omega) (by simp [butBox] <;> omega) (.int .i64 r : Value) (.int .i64 0 : Value); have hF := hF1.put6 (i := 0) rfl (by omega) (by simp [butBox, setBox] <;> omega) (.int .i64 0 : Value) (.int .i64 0 : Value) (.int .i64 0 : Value) (.string ⟨#[]⟩ : Value) (.bool false : Value) (.int .i64 0 : Value); have hbel := hF.bel; have kr := hB.box (i := 0) rfl; have cr0 := kr.cell 0; have zr0 := kr.frozen 0; have cr1 := kr.cell 1; have zr1 := kr.frozen 1; have cr2 := kr.cell 2; have zr2 := kr.frozen 2; have cr3 := kr.cell 3; have zr3 := kr.frozen 3; have cr4 := kr.cell 4; have zr4 := kr.frozen 4; have cr5 := kr.cell 5; have zr5 := kr.frozen 5; clear kr; have kd := hB.box (i := 1) rfl; have cd0 := kd.cell 0; have zd0 := kd.frozen 0; have cd1 := kd.cell 1; have zd1 := kd.frozen 1; clear kd; clear hb HB H1 H2 hB hF hF1; go_wp2; refine bodyPost_ret (v := .tuple #[.agg #[.int .i64 r, .int .i64 0], .agg #[.int .i64 0, .int .i64 0, .int .i64 0, .string ⟨#[]⟩, .bool false, .int .i64 0], .bool true]) ?_ rfl ⟨rfl, hbel⟩; simp [results, Tryz.results109, go_sem, cr0, cr1, cr2, cr3, cr4, cr5, cd0, cd1]
set_option maxRecDepth 20000 in
theorem number_str {w : World} {t : ByteArray} {m s : Int} (HP : ∀ W : World, Calls Tryz.prog 172 #[.string t] W fun x w' => x = .returned (.tuple #[.agg #[.int .i64 m, .int .i64 s], .int .i64 0]) ∧ Below W.heap.size W w') :
    Calls Tryz.prog 109 #[.agg #[.int .i64 2, .int .i64 0, .int .i64 0, .string t, .bool false, .int .i64 0]] w fun x w' => x = .returned (.tuple #[.agg #[.int .i64 m, .int .i64 s], .agg #[.int .i64 0, .int .i64 0, .int .i64 0, .string ⟨#[]⟩, .bool false, .int .i64 0], .bool true]) ∧ Below w.heap.size w w' := by
  have H1 := Lib.hid HP; clear HP; have HB := Lib.hid (((sb1 w 32 #[.int .i64 2, .int .i64 0, .int .i64 0, .string t, .bool false, .int .i64 0]).push (by simp) 30 #[.int .i64 0, .int .i64 0]).push (by simp) 32 #[.int .i64 0, .int .i64 0, .int .i64 0, .string ⟨#[]⟩, .bool false, .int .i64 0]); go_enter Tryz.func109, Tryz.ntmps109
  go_wp2_with fail
  refine (H1.out _).mono ?_; rintro x w1 ⟨rfl, hb⟩; have hz := (HB.out.call hb).size; have hB := (HB.out.call hb).alloc 30 #[.int .i64 m, .int .i64 s]; have hF1 := hB.put2 (i := 2) rfl (by omega) (by simp [butBox] <;> omega) (.int .i64 m : Value) (.int .i64 s : Value); have hF := hF1.put6 (i := 1) rfl (by omega) (by simp [butBox, setBox] <;> omega) (.int .i64 0 : Value) (.int .i64 0 : Value) (.int .i64 0 : Value) (.string ⟨#[]⟩ : Value) (.bool false : Value) (.int .i64 0 : Value); have hbel := hF.bel; have kr := hB.box (i := 1) rfl; have cr0 := kr.cell 0; have zr0 := kr.frozen 0; have cr1 := kr.cell 1; have zr1 := kr.frozen 1; have cr2 := kr.cell 2; have zr2 := kr.frozen 2; have cr3 := kr.cell 3; have zr3 := kr.frozen 3; have cr4 := kr.cell 4; have zr4 := kr.frozen 4; have cr5 := kr.cell 5; have zr5 := kr.frozen 5; clear kr; have kd := hB.box (i := 2) rfl; have cd0 := kd.cell 0; have zd0 := kd.frozen 0; have cd1 := kd.cell 1; have zd1 := kd.frozen 1; clear kd; have kn := hB.box (i := 0) rfl; have cn0 := kn.cell 0; have zn0 := kn.frozen 0; have cn1 := kn.cell 1; have zn1 := kn.frozen 1; clear kn; clear hb HB H1 hB hF hF1; go_wp2; refine bodyPost_ret (v := .tuple #[.agg #[.int .i64 m, .int .i64 s], .agg #[.int .i64 0, .int .i64 0, .int .i64 0, .string ⟨#[]⟩, .bool false, .int .i64 0], .bool true]) ?_ rfl ⟨rfl, hbel⟩; simp [results, Tryz.results109, go_sem, cr0, cr1, cr2, cr3, cr4, cr5, cd0, cd1]
set_option maxRecDepth 20000 in
theorem number_none {w : World} {t : ByteArray} {m s e : Int} (he : ¬ e = 0) (HP : ∀ W : World, Calls Tryz.prog 172 #[.string t] W fun x w' => x = .returned (.tuple #[.agg #[.int .i64 m, .int .i64 s], .int .i64 e]) ∧ Below W.heap.size W w') :
    Calls Tryz.prog 109 #[.agg #[.int .i64 2, .int .i64 0, .int .i64 0, .string t, .bool false, .int .i64 0]] w fun x w' => x = .returned (.tuple #[.agg #[.int .i64 0, .int .i64 0], .agg #[.int .i64 4, .int .i64 0, .int .i64 0, .string ⟨#[]⟩, .bool false, .int .i64 15], .bool false]) ∧ Below w.heap.size w w' := by
  have H1 := Lib.hid HP; clear HP; have HX := Lib.hid (fun W : World => fault_any (w := W) 15); have HB := Lib.hid (((sb1 w 32 #[.int .i64 2, .int .i64 0, .int .i64 0, .string t, .bool false, .int .i64 0]).push (by simp) 30 #[.int .i64 0, .int .i64 0]).push (by simp) 32 #[.int .i64 0, .int .i64 0, .int .i64 0, .string ⟨#[]⟩, .bool false, .int .i64 0]); go_enter Tryz.func109, Tryz.ntmps109
  go_wp2_with fail
  refine (H1.out _).mono ?_; rintro x w1 ⟨rfl, hb⟩; have hz := (HB.out.call hb).size; have HB2 := Lib.hid ((HB.out.call hb).alloc 30 #[.int .i64 m, .int .i64 s]); clear hb HB H1; have HB := HB2; clear HB2
  go_wp2_with fail
  refine (HX.out _).mono ?_; rintro e w9 ⟨rfl, hb⟩; have hB := HB.out.call hb; have hF1 := hB.put2 (i := 2) rfl (by omega) (by simp [butBox] <;> omega) (.int .i64 0 : Value) (.int .i64 0 : Value); have hF := hF1.put6 (i := 1) rfl (by omega) (by simp [butBox, setBox] <;> omega) (.int .i64 4 : Value) (.int .i64 0 : Value) (.int .i64 0 : Value) (.string ⟨#[]⟩ : Value) (.bool false : Value) (.int .i64 15 : Value); have hbel := hF.bel; have kr := hB.box (i := 1) rfl; have cr0 := kr.cell 0; have zr0 := kr.frozen 0; have cr1 := kr.cell 1; have zr1 := kr.frozen 1; have cr2 := kr.cell 2; have zr2 := kr.frozen 2; have cr3 := kr.cell 3; have zr3 := kr.frozen 3; have cr4 := kr.cell 4; have zr4 := kr.frozen 4; have cr5 := kr.cell 5; have zr5 := kr.frozen 5; clear kr; have kd := hB.box (i := 2) rfl; have cd0 := kd.cell 0; have zd0 := kd.frozen 0; have cd1 := kd.cell 1; have zd1 := kd.frozen 1; clear kd; clear hb HB HX hB hF hF1; go_wp2; refine bodyPost_ret (v := .tuple #[.agg #[.int .i64 0, .int .i64 0], .agg #[.int .i64 4, .int .i64 0, .int .i64 0, .string ⟨#[]⟩, .bool false, .int .i64 15], .bool false]) ?_ rfl ⟨rfl, hbel⟩; simp [results, Tryz.results109, go_sem, cr0, cr1, cr2, cr3, cr4, cr5, cd0, cd1]
end Go.Proofs.YtngkolcpbgibcaaGreatDoor
namespace Go.Proofs.YtngkolcpbgibcaaGreatDoor
open Go.RowKit
def xval : VX → Value
  | .blank => .agg #[.int .i64 0, .int .i64 0, .int .i64 0, .string ⟨#[]⟩, .bool false, .int .i64 0]
  | .num m s => .agg #[.int .i64 1, .int .i64 m, .int .i64 (s : Nat), .string ⟨#[]⟩, .bool false, .int .i64 0]
  | .str t => .agg #[.int .i64 2, .int .i64 0, .int .i64 0, .string ⟨t.toArray⟩, .bool false, .int .i64 0]
  | .bool b => .agg #[.int .i64 3, .int .i64 0, .int .i64 0, .string ⟨#[]⟩, .bool b, .int .i64 0]
  | .err e => .agg #[.int .i64 4, .int .i64 0, .int .i64 0, .string ⟨#[]⟩, .bool false, .int .i64 e]
def shortX (n : Nat) : VX → Prop
  | .str t => t.length ≤ n
  | _ => True
theorem cmpx_any {w : World} {a b : VX} (ha : OkX a) (hb : OkX b) (sa : shortX 10000000 a) (sb : shortX 10000000 b) :
    Calls Tryz.prog 27 #[xval a, xval b] w fun x w' => x = .returned (.int .i64 (cmpX a b)) ∧ Below w.heap.size w w' := by
  have bs : ∀ l : List UInt8, (⟨l.toArray⟩ : ByteArray).size = l.length := fun l => by simp [ByteArray.size]
  cases a with
  | blank =>
    cases b with
    | blank =>
      exact compare_blank (fun W => filled_blank 0 _ _ _ _ _ (by decide)) (fun W => filled_blank 0 _ _ _ _ _ (by decide))
    | num m2 s2 =>
      exact compare_num (fun W => filled_blank 1 _ _ _ _ _ (by decide)) (fun W => filled_non 1 _ _ _ _ _ _ _ _ _ _ _ (by decide)) (fun W => compare_any (w := W) (show Gd 0 0 from ⟨by decide, by decide, by decide, .inl rfl⟩) hb)
    | str t2 =>
      exact compare_str (fun W => filled_blank 2 _ _ _ _ _ (by decide)) (fun W => filled_non 2 _ _ _ _ _ _ _ _ _ _ _ (by decide)) (fun W => compareTexts_any (w := W) ⟨(([] : List UInt8)).toArray⟩ ⟨(t2).toArray⟩ (by decide) (by rw [bs]; have : t2.length ≤ 10000000 := sb; omega))
    | bool b2 =>
      exact compare_bool (fun W => filled_blank 3 _ _ _ _ _ (by decide)) (fun W => filled_non 3 _ _ _ _ _ _ _ _ _ _ _ (by decide))
    | err e2 =>
      exact compare_kinds (fun W => filled_err _ _ _ _ _) (fun W => filled_non 4 _ _ _ _ _ _ _ _ _ _ _ (by decide)) (by decide)
  | num m1 s1 =>
    cases b with
    | blank =>
      exact compare_num (fun W => filled_non 1 _ _ _ _ _ _ _ _ _ _ _ (by decide)) (fun W => filled_blank 1 _ _ _ _ _ (by decide)) (fun W => compare_any (w := W) ha (show Gd 0 0 from ⟨by decide, by decide, by decide, .inl rfl⟩))
    | num m2 s2 =>
      exact compare_num (fun W => filled_non 1 _ _ _ _ _ _ _ _ _ _ _ (by decide)) (fun W => filled_non 1 _ _ _ _ _ _ _ _ _ _ _ (by decide)) (fun W => compare_any (w := W) ha hb)
    | str t2 =>
      exact compare_kinds (fun W => filled_non 1 _ _ _ _ _ _ _ _ _ _ _ (by decide)) (fun W => filled_non 2 _ _ _ _ _ _ _ _ _ _ _ (by decide)) (by decide)
    | bool b2 =>
      exact compare_kinds (fun W => filled_non 1 _ _ _ _ _ _ _ _ _ _ _ (by decide)) (fun W => filled_non 3 _ _ _ _ _ _ _ _ _ _ _ (by decide)) (by decide)
    | err e2 =>
      exact compare_kinds (fun W => filled_non 1 _ _ _ _ _ _ _ _ _ _ _ (by decide)) (fun W => filled_non 4 _ _ _ _ _ _ _ _ _ _ _ (by decide)) (by decide)
  | str t1 =>
    cases b with
    | blank =>
      exact compare_str (fun W => filled_non 2 _ _ _ _ _ _ _ _ _ _ _ (by decide)) (fun W => filled_blank 2 _ _ _ _ _ (by decide)) (fun W => compareTexts_any (w := W) ⟨(t1).toArray⟩ ⟨(([] : List UInt8)).toArray⟩ (by rw [bs]; have : t1.length ≤ 10000000 := sa; omega) (by decide))
    | num m2 s2 =>
      exact compare_kinds (fun W => filled_non 2 _ _ _ _ _ _ _ _ _ _ _ (by decide)) (fun W => filled_non 1 _ _ _ _ _ _ _ _ _ _ _ (by decide)) (by decide)
    | str t2 =>
      exact compare_str (fun W => filled_non 2 _ _ _ _ _ _ _ _ _ _ _ (by decide)) (fun W => filled_non 2 _ _ _ _ _ _ _ _ _ _ _ (by decide)) (fun W => compareTexts_any (w := W) ⟨(t1).toArray⟩ ⟨(t2).toArray⟩ (by rw [bs]; have : t1.length ≤ 10000000 := sa; omega) (by rw [bs]; have : t2.length ≤ 10000000 := sb; omega))
    | bool b2 =>
      exact compare_kinds (fun W => filled_non 2 _ _ _ _ _ _ _ _ _ _ _ (by decide)) (fun W => filled_non 3 _ _ _ _ _ _ _ _ _ _ _ (by decide)) (by decide)
    | err e2 =>
      exact compare_kinds (fun W => filled_non 2 _ _ _ _ _ _ _ _ _ _ _ (by decide)) (fun W => filled_non 4 _ _ _ _ _ _ _ _ _ _ _ (by decide)) (by decide)
  | bool b1 =>
    cases b with
    | blank =>
      exact compare_bool (fun W => filled_non 3 _ _ _ _ _ _ _ _ _ _ _ (by decide)) (fun W => filled_blank 3 _ _ _ _ _ (by decide))
    | num m2 s2 =>
      exact compare_kinds (fun W => filled_non 3 _ _ _ _ _ _ _ _ _ _ _ (by decide)) (fun W => filled_non 1 _ _ _ _ _ _ _ _ _ _ _ (by decide)) (by decide)
    | str t2 =>
      exact compare_kinds (fun W => filled_non 3 _ _ _ _ _ _ _ _ _ _ _ (by decide)) (fun W => filled_non 2 _ _ _ _ _ _ _ _ _ _ _ (by decide)) (by decide)
    | bool b2 =>
      exact compare_bool (fun W => filled_non 3 _ _ _ _ _ _ _ _ _ _ _ (by decide)) (fun W => filled_non 3 _ _ _ _ _ _ _ _ _ _ _ (by decide))
    | err e2 =>
      exact compare_kinds (fun W => filled_non 3 _ _ _ _ _ _ _ _ _ _ _ (by decide)) (fun W => filled_non 4 _ _ _ _ _ _ _ _ _ _ _ (by decide)) (by decide)
  | err e1 =>
    cases b with
    | blank =>
      exact compare_kinds (fun W => filled_non 4 _ _ _ _ _ _ _ _ _ _ _ (by decide)) (fun W => filled_err _ _ _ _ _) (by decide)
    | num m2 s2 =>
      exact compare_kinds (fun W => filled_non 4 _ _ _ _ _ _ _ _ _ _ _ (by decide)) (fun W => filled_non 1 _ _ _ _ _ _ _ _ _ _ _ (by decide)) (by decide)
    | str t2 =>
      exact compare_kinds (fun W => filled_non 4 _ _ _ _ _ _ _ _ _ _ _ (by decide)) (fun W => filled_non 2 _ _ _ _ _ _ _ _ _ _ _ (by decide)) (by decide)
    | bool b2 =>
      exact compare_kinds (fun W => filled_non 4 _ _ _ _ _ _ _ _ _ _ _ (by decide)) (fun W => filled_non 3 _ _ _ _ _ _ _ _ _ _ _ (by decide)) (by decide)
    | err e2 =>
      exact compare_err (fun W => filled_non 4 _ _ _ _ _ _ _ _ _ _ _ (by decide)) (fun W => filled_non 4 _ _ _ _ _ _ _ _ _ _ _ (by decide))
theorem toList_inj {s t : ByteArray} (h : s.toList = t.toList) : s = t := by
  rw [ByteArray.toList_eq, ByteArray.toList_eq] at h; exact ByteArray.ext (Array.toList_inj.1 h)
end Go.Proofs.YtngkolcpbgibcaaGreatDoor
namespace Go.Proofs.YtngkolcpbgibcaaGreatDoor
open Go.RowKit
def vc : VX → List Value
  | .blank => [.int .i64 0, .int .i64 0, .int .i64 0, .string ⟨#[]⟩, .bool false, .int .i64 0]
  | .num m s => [.int .i64 1, .int .i64 m, .int .i64 (s : Nat), .string ⟨#[]⟩, .bool false, .int .i64 0]
  | .str t => [.int .i64 2, .int .i64 0, .int .i64 0, .string ⟨t.toArray⟩, .bool false, .int .i64 0]
  | .bool b => [.int .i64 3, .int .i64 0, .int .i64 0, .string ⟨#[]⟩, .bool b, .int .i64 0]
  | .err e => [.int .i64 4, .int .i64 0, .int .i64 0, .string ⟨#[]⟩, .bool false, .int .i64 e]
theorem xval_vc (x : VX) : xval x = .agg (vc x).toArray := by cases x <;> rfl
theorem vc_len (x : VX) : (vc x).length = 6 := by cases x <;> rfl
theorem vc_kind (x : VX) : (vc x)[0]? = some (.int .i64 x.kind) := by cases x <;> rfl
theorem vc_one (x : VX) : ∀ u ∈ vc x, u.oneCell' = true := by
  cases x <;> intro u hu <;> simp only [vc, List.mem_cons, List.not_mem_nil, or_false] at hu <;> rcases hu with rfl | rfl | rfl | rfl | rfl | rfl <;> rfl
inductive NR where
  | ok (m : Int) (s : Nat)
  | no (x : VX)
def numX : VX → NR
  | .blank => .ok 0 0
  | .num m s => .ok m s
  | .str t => if (pD t).e = 0 then .ok (pD t).m (pD t).s else .no (.err 15)
  | .bool b => .ok (rk b) 0
  | .err e => .no (.err e)
def numV : NR → Value
  | .ok m s => .tuple #[.agg #[.int .i64 m, .int .i64 (s : Nat)], (.agg (vc .blank).toArray), .bool true]
  | .no x => .tuple #[.agg #[.int .i64 0, .int .i64 0], (.agg (vc x).toArray), .bool false]
inductive WR where
  | ok (l : List UInt8)
  | no (x : VX)
def wrdX : VX → WR
  | .blank => .ok []
  | .num m s => .ok (decTx m s)
  | .str t => .ok t
  | .bool b => .ok (trL b)
  | .err e => .no (.err e)
def wrdV : WR → Value
  | .ok l => .tuple #[sL l, (.agg (vc .blank).toArray), .bool true]
  | .no x => .tuple #[.string ⟨#[]⟩, (.agg (vc x).toArray), .bool false]
inductive TR where
  | ok (b : Bool)
  | no (x : VX)
def truX : VX → TR
  | .blank => .ok false
  | .num m _ => .ok (decide (m ≠ 0))
  | .str t => if t = yesL then .ok true else if t = noL then .ok false else .no (.err 15)
  | .bool b => .ok b
  | .err e => .no (.err e)
def truV : TR → Value
  | .ok b => .tuple #[.bool b, (.agg (vc .blank).toArray), .bool true]
  | .no x => .tuple #[.bool false, (.agg (vc x).toArray), .bool false]
def reckX (r : DR) : VX := if r.e = 0 then .num r.m r.s else if r.e = 9 then .err 7 else .err 36
def textX (l : List UInt8) : VX := if uE l = 0 then .str l else .err 15
theorem number_x {w : World} {x : VX} (hs : shortX 100000000 x) :
    Calls Tryz.prog 109 #[.agg (vc x).toArray] w fun e W => e = .returned (numV (numX x)) ∧ Below w.heap.size w W := by
  cases x with
  | blank => exact number_blank
  | num m s => exact number_num m s
  | str t =>
    have hl : t.length ≤ 100000000 := hs; have HP : ∀ W : World, ParseTo ⟨t.toArray⟩ W (pD t) := fun W => parse_l t hl
    by_cases h : (pD t).e = 0
    · rw [show numX (.str t) = .ok (pD t).m (pD t).s from if_pos h]; refine number_str (m := (pD t).m) (s := (pD t).s) fun W => ?_; have := HP W; unfold ParseTo at this; rw [dv_parts, h] at this; exact this
    · rw [show numX (.str t) = .no (.err 15) from if_neg h]; refine number_none (m := (pD t).m) (s := (pD t).s) (e := (pD t).e) (by omega) fun W => ?_; have := HP W; unfold ParseTo at this; rw [dv_parts] at this; exact this
  | bool b => exact number_bool b
  | err e => exact number_err e
theorem words_x {w : World} (HT : Tens w) {x : VX} (ho : OkX x) :
    Calls Tryz.prog 111 #[.agg (vc x).toArray] w fun e W => e = .returned (wrdV (wrdX x)) ∧ Below w.heap.size w W := by
  cases x with
  | blank => exact words_blank
  | num m s => exact words_num HT ho
  | str t => exact words_str _
  | bool b => exact words_bool b
  | err e => exact words_err e
theorem truth_x {w : World} {x : VX} :
    Calls Tryz.prog 110 #[.agg (vc x).toArray] w fun e W => e = .returned (truV (truX x)) ∧ Below w.heap.size w W := by
  cases x with
  | blank => exact truth_blank
  | num m s =>
    by_cases h : m = 0
    · subst h; exact truth_num0 _
    · have : truX (.num m s) = .ok true := by simp [truX, h]
      rw [this]; exact truth_numn m _ h
  | str t =>
    have hb : (⟨t.toArray⟩ : ByteArray).toList = t := by rw [ByteArray.toList_eq]
    by_cases h1 : t = yesL
    · rw [show truX (.str t) = .ok true from if_pos h1]; subst h1; exact truth_yes
    · by_cases h2 : t = noL
      · rw [show truX (.str t) = .ok false from (if_neg h1).trans (if_pos h2)]; subst h2; exact truth_no
      · rw [show truX (.str t) = .no (.err 15) from (if_neg h1).trans (if_neg h2)]; exact truth_none _ (by rw [hb, beq_eq_false_iff_ne]; exact h1) (by rw [hb, beq_eq_false_iff_ne]; exact h2)
  | bool b => exact truth_bool b
  | err e => exact truth_err e
end Go.Proofs.YtngkolcpbgibcaaGreatDoor
namespace Go.Proofs.YtngkolcpbgibcaaGreatDoor
open Go.RowKit
abbrev Bxs := List (Nat × TypeId × List Value)
structure BX (w : World) (bs : Bxs) (W : World) : Prop where
  bel : Below w.heap.size w W
  lo : ∀ b ∈ bs, w.heap.size ≤ b.1
  bk : ∀ b ∈ bs, Bk W b.1 b.2.1 b.2.2.toArray
  nd : (bs.map (·.1)).Nodup
section
variable {w W W' : World} {bs : Bxs} {g i : Nat} {ty : TypeId} {cs vs : List Value}
theorem BX.start (w : World) : BX w [] w := ⟨Below.refl _ _, by simp, by simp, by simp⟩
theorem BX.call (h : BX w bs W) (hb : Below W.heap.size W W') : BX w bs W' := ⟨h.bel.trans (hb.mono h.bel.size), h.lo, fun b hm => (h.bk b hm).below hb (h.bk b hm).lt, h.nd⟩
theorem BX.drew (h : BX w bs W) : BX w bs W.drew := ⟨h.bel.drew, h.lo, h.bk, h.nd⟩
theorem BX.made (h : BX w bs W) (ty : TypeId) (cs : List Value) : BX w ((W.heap.size, ty, cs) :: bs) (W.alloc (.cells cs.toArray ty)) := by
  refine ⟨h.bel.alloc h.bel.size _, fun b hb => ?_, fun b hb => ?_, ?_⟩
  · rcases List.mem_cons.1 hb with rfl | hb
    · exact h.bel.size
    · exact h.lo b hb
  · rcases List.mem_cons.1 hb with rfl | hb
    · exact Bk.new W ty cs.toArray
    · exact (h.bk b hb).alloc _
  · rw [List.map_cons, List.nodup_cons]; refine ⟨fun hm => ?_, h.nd⟩; obtain ⟨b, hb, e⟩ := List.mem_map.1 hm; have := (h.bk b hb).lt; omega
theorem BX.other (h : BX w bs W) (o : Obj) : BX w bs (W.alloc o) := h.call (bel0 W o)
theorem BX.get (h : BX w bs W) (hi : bs[i]? = some (g, ty, cs)) : Bk W g ty cs.toArray := h.bk _ (List.mem_of_getElem? hi)
theorem BX.cell (h : BX w bs W) (hi : bs[i]? = some (g, ty, cs)) (k : Nat) : W.cell? ⟨g, k, none⟩ = cs[k]? := by rw [(h.get hi).cell]; simp
theorem BX.frozen (h : BX w bs W) (hi : bs[i]? = some (g, ty, cs)) (k : Nat) : W.frozen? ⟨g, k, none⟩ = false := (h.get hi).frozen k
theorem BX.turn (h : BX w bs W) (hi : bs[i]? = some (g, ty, cs)) (hk : Bk W' g ty vs.toArray) (hK : Keep (fun j => j = g) W W') : BX w (bs.set i (g, ty, vs)) W' := by
  have hg := h.lo _ (List.mem_of_getElem? hi)
  have hmap : (bs.set i (g, ty, vs)).map (·.1) = bs.map (·.1) := by
    rw [List.map_set]; apply List.ext_getElem?; intro j; rw [List.getElem?_set, List.getElem?_map]
    split
    · subst_vars; rw [List.length_map, if_pos (List.getElem?_eq_some_iff.1 hi).1, hi]; rfl
    · rfl
  refine ⟨h.bel.trans (hK.below (B := w.heap.size) h.bel.size fun j hj e => by have : w.heap.size ≤ g := hg; omega), fun b hb => ?_, fun b hb => ?_, by rw [hmap]; exact h.nd⟩
  · rcases List.mem_or_eq_of_mem_set hb with hb | rfl
    · exact h.lo b hb
    · exact hg
  · obtain ⟨j, hj⟩ := List.getElem?_of_mem hb; rw [List.getElem?_set] at hj
    split at hj
    · split at hj
      · injection hj with hj; subst hj; exact hk
      · cases hj
    · rename_i hne
      refine hK.bk (h.bk b (List.mem_of_getElem? hj)) fun e => ?_; have h1 : (bs.map (·.1))[i]? = some g := by rw [List.getElem?_map, hi]; rfl
      have h2 : (bs.map (·.1))[j]? = some g := by rw [List.getElem?_map, hj, ← e]; rfl
      obtain ⟨l1, e1⟩ := List.getElem?_eq_some_iff.1 h1; obtain ⟨l2, e2⟩ := List.getElem?_eq_some_iff.1 h2; exact hne ((List.getElem_inj h.nd).1 (e1.trans e2.symm))
theorem BX.some_ {bs' : Bxs} (h : BX w bs W) (hs : bs'.Sublist bs) : BX w bs' W := ⟨h.bel, fun b hb => h.lo b (hs.subset hb), fun b hb => h.bk b (hs.subset hb), h.nd.sublist (hs.map _)⟩
end
theorem set_list {l m : List Value} {o : Nat} {v : Value} (h : o < l.length) : (l.set o v).take (o + 1) ++ m = l.take o ++ v :: m := by
  rw [List.take_set, List.take_succ_eq_append_getElem h, List.set_append_right _ _ (by rw [List.length_take]; omega)]; simp [Nat.min_eq_left (Nat.le_of_lt h)]
theorem setCells_size {g : Nat} : ∀ (l : List Value) (o : Nat) (W : World), (W.setCells g o l).heap.size = W.heap.size
  | [], _, _ => rfl
  | v :: l, o, W => by
    rw [World.setCells, setCells_size l (o + 1)]; simp [World.setCell]
theorem load_any {P : Program} (w : World) (q : Addr) (ty : TypeId) (cs : List Value) (d : TypeDesc) (hc : ∀ (j : Nat) (u : Value), cs[j]? = some u → w.cell? (q.add j) = some u)
    (hu : P.underlying ty = some d) (hd : d.isRow = true) (hi : (P.info? ty).map (·.size) = some cs.length) : (loadVar ty q).run P w = .ok (.agg cs.toArray) w := by
  have hl : (loadCells q cs.length).run P w = .ok cs.toArray w := run_loadCells_list (P := P) w q cs hc
  cases hq : P.info? ty with
  | none => simp [hq] at hi
  | some i =>
    have hs : i.size = cs.length := by simpa [hq] using hi
    have hagg : (isAgg ty).run P w = .ok true w := by
      unfold isAgg; rw [Sem.run_bind, run_underlying hu w]
      cases d <;> simp_all
    simp [loadVar, Sem.run_bind, hagg, sizeOf, typeInfo, hq, hs, hl]
theorem setCells_bk {g : Nat} {t : TypeId} : ∀ (l : List Value) (o : Nat) (cs : List Value) (W : World), Bk W g t cs.toArray → o + l.length ≤ cs.length → Bk (W.setCells g o l) g t (cs.take o ++ l ++ cs.drop (o + l.length)).toArray
  | [], o, cs, W, h, _ => by simpa [World.setCells] using h
  | v :: l, o, cs, W, h, hl => by
    simp only [List.length_cons] at hl; have h1 := h.set_ o v; rw [List.setIfInBounds_toArray] at h1; have h2 := setCells_bk l (o + 1) (cs.set o v) _ h1 (by rw [List.length_set]; omega); rw [World.setCells]
    have e : (cs.set o v).take (o + 1) ++ l ++ (cs.set o v).drop (o + 1 + l.length) = cs.take o ++ v :: l ++ cs.drop (o + (v :: l).length) := by
      rw [set_list (by omega), List.drop_set_of_lt (by omega), List.length_cons, show o + 1 + l.length = o + (l.length + 1) by omega]
    rw [e] at h2; exact h2
theorem setCells_keep {g : Nat} : ∀ (l : List Value) (o : Nat) (W : World), Keep (fun i => i = g) W (W.setCells g o l)
  | [], _, W => Keep.refl _ _
  | v :: l, o, W => by
    rw [World.setCells]; exact ((Keep.refl (fun i => i = g) W).setCell (p := ⟨g, o, none⟩) (fun _ => rfl) v).trans (setCells_keep l (o + 1) _) fun _ _ h => h
structure RowT (ty : TypeId) (n : Nat) : Prop where
  und : ∃ d, Tryz.prog.underlying ty = some d ∧ d.isRow = true
  size : (Tryz.prog.info? ty).map (·.size) = some n
theorem rtVal : RowT 32 6 := ⟨⟨_, Tryz.underlying32, rfl⟩, by kernel_rfl⟩
theorem rtDec : RowT 30 2 := ⟨⟨_, Tryz.underlying30, rfl⟩, by kernel_rfl⟩
theorem rtArg : RowT 55 2 := ⟨⟨_, Tryz.underlying55, rfl⟩, by kernel_rfl⟩
section
variable {o : Oper} {a : Act} {w W : World} {K : Act → World → Prop} {Q : Exit → Act → World → Prop} {bs : Bxs} {g i : Nat} {ty : TypeId} {cs vs : List Value}
theorem ldm_g (T : RowT ty cs.length) (x : Operand) {q : Addr} (ho : o.op = .load ty x) (hx : a.eval x = .pointer (some q)) (hb : ∀ (j : Nat) (u : Value), cs[j]? = some u → W.cell? (q.add j) = some u) (h : K (a.put o.dst (.agg cs.toArray)) W) : o.wp Tryz.prog a W K Q := by
  obtain ⟨d, hu, hd⟩ := T.und; unfold Oper.wp execOp; simp only [ho, hx, Instr.loadAt, Instr.sureAddr, Sem.run_bind, Sem.run_pure, Result.andThen_ok, load_any W q _ cs _ hb hu hd T.size]; exact h
theorem ld_g (T : RowT ty cs.length) (H : Hid (BX w bs W)) (hi : bs[i]? = some (g, ty, cs)) (x : Operand) (ho : o.op = .load ty x) (hx : a.eval x = .pointer (some ⟨g, 0, none⟩)) (h : K (a.put o.dst (.agg cs.toArray)) W) : o.wp Tryz.prog a W K Q :=
  ldm_g T x ho hx (fun j u hu => by
    have e : (⟨g, 0, none⟩ : Addr).add j = ⟨g, j, none⟩ := by unfold Addr.add; split <;> simp_all
    rw [e, H.out.cell hi]; exact hu) h
theorem st_g (T : RowT ty vs.length) (h1 : ∀ u ∈ vs, u.oneCell' = true) (H : Hid (BX w bs W)) (hi : bs[i]? = some (g, ty, cs)) (hl : cs.length = vs.length) (x y : Operand) (ho : o.op = .store ty x y) (hx : a.eval x = .pointer (some ⟨g, 0, none⟩)) (hy : a.eval y = .agg vs.toArray)
    (h : ∀ W', Hid (BX w (bs.set i (g, ty, vs)) W') → K (a.put o.dst undef) W') : o.wp Tryz.prog a W K Q := by
  have hb := H.out.get hi; refine wp_store_mid _ x y ho g 0 vs.toArray hx hy (fun j hj => ?_) (by rw [List.size_toArray]; exact T.size) (all_oneCell_toArray h1) ?_
  · rw [List.size_toArray] at hj; rw [Nat.zero_add, hb.cell, hb.frozen]; exact ⟨by simp; omega, rfl⟩
  · have h2 := setCells_bk vs 0 cs W hb (by omega); have e : cs.take 0 ++ vs ++ cs.drop (0 + vs.length) = vs := by simp [List.drop_eq_nil_of_le (Nat.le_of_eq hl)]
    rw [e] at h2; exact h _ (Lib.hid (H.out.turn hi h2 (setCells_keep _ _ _)))
theorem stop_st (x y : Operand) (ho : o.op = .store ty x y) (h : Hid (o.wp Tryz.prog a W K Q)) : o.wp Tryz.prog a W K Q := h.out
theorem stop_ld (x : Operand) (ho : o.op = .load ty x) (h : Hid (o.wp Tryz.prog a W K Q)) : o.wp Tryz.prog a W K Q := h.out
theorem stop_al (ho : o.op = .alloc ty) (h : Hid (o.wp Tryz.prog a W K Q)) : o.wp Tryz.prog a W K Q := h.out
theorem is_ld (ty : TypeId) (x : Operand) (ho : o.op = .load ty x) (h : o.wp Tryz.prog a W K Q) : o.wp Tryz.prog a W K Q := h
theorem is_st (ty : TypeId) (x y : Operand) (ho : o.op = .store ty x y) (h : o.wp Tryz.prog a W K Q) : o.wp Tryz.prog a W K Q := h
theorem is_al (ty : TypeId) (ho : o.op = .alloc ty) (h : o.wp Tryz.prog a W K Q) : o.wp Tryz.prog a W K Q := h
theorem is_bx (ty : TypeId) (x : Operand) (ho : o.op = .box ty x) (h : o.wp Tryz.prog a W K Q) : o.wp Tryz.prog a W K Q := h
theorem stop_bd {ps : Array (Nat × Operand)} (ho : o.op = .build ty ps) (h : Hid (o.wp Tryz.prog a W K Q)) : o.wp Tryz.prog a W K Q := h.out
theorem stop_bs {n : Nat} {ps : Array (Nat × Operand)} (ho : o.op = .buildSlice ty n ps) (h : Hid (o.wp Tryz.prog a W K Q)) : o.wp Tryz.prog a W K Q := h.out
theorem wp_b {v : Value} (hr : (execOp a.eval o).run Tryz.prog W = .ok (.value v) W) (h : K (a.put o.dst v) W) : o.wp Tryz.prog a W K Q := by
  unfold Oper.wp; rw [hr]; exact h
end
def dc (m : Int) (s : Int) : List Value := [.int .i64 m, .int .i64 s]
theorem dc_one (m s : Int) : ∀ u ∈ dc m s, u.oneCell' = true := by
  intro u hu; simp only [dc, List.mem_cons, List.not_mem_nil, or_false] at hu
  rcases hu with rfl | rfl <;> rfl
section
variable {o : Oper} {a : Act} {w W : World} {K : Act → World → Prop} {Q : Exit → Act → World → Prop} {bs : Bxs} {g i : Nat} {cs : List Value} {v : VX} {m s : Int}
theorem ld_v (i : Nat) (H : Hid (BX w bs W)) (hi : bs[i]? = some (g, 32, vc v)) (x : Operand) (ho : o.op = .load 32 x) (hx : a.eval x = .pointer (some ⟨g, 0, none⟩)) (h : K (a.put o.dst (.agg (vc v).toArray)) W) : o.wp Tryz.prog a W K Q :=
  ld_g (by rw [vc_len]; exact rtVal) H hi x ho hx h
theorem ld_d (i : Nat) (H : Hid (BX w bs W)) (hi : bs[i]? = some (g, 30, dc m s)) (x : Operand) (ho : o.op = .load 30 x) (hx : a.eval x = .pointer (some ⟨g, 0, none⟩)) (h : K (a.put o.dst (.agg (dc m s).toArray)) W) : o.wp Tryz.prog a W K Q :=
  ld_g rtDec H hi x ho hx h
theorem st_v (i : Nat) (H : Hid (BX w bs W)) {v0 : VX} (hi : bs[i]? = some (g, 32, vc v0)) (x y : Operand) (ho : o.op = .store 32 x y) (hx : a.eval x = .pointer (some ⟨g, 0, none⟩)) (hy : a.eval y = .agg (vc v).toArray)
    (h : ∀ W', Hid (BX w (bs.set i (g, 32, vc v)) W') → K (a.put o.dst undef) W') : o.wp Tryz.prog a W K Q :=
  st_g (by rw [vc_len]; exact rtVal) (vc_one v) H hi (by rw [vc_len, vc_len]) x y ho hx hy h
theorem st_d (i : Nat) (H : Hid (BX w bs W)) {m0 s0 : Int} (hi : bs[i]? = some (g, 30, dc m0 s0)) (x y : Operand) (ho : o.op = .store 30 x y) (hx : a.eval x = .pointer (some ⟨g, 0, none⟩)) (hy : a.eval y = .agg (dc m s).toArray)
    (h : ∀ W', Hid (BX w (bs.set i (g, 30, dc m s)) W') → K (a.put o.dst undef) W') : o.wp Tryz.prog a W K Q :=
  st_g rtDec (dc_one m s) H hi rfl x y ho hx hy h
theorem al_v (H : Hid (BX w bs W)) (ho : o.op = .alloc 32) (h : ∀ g W', Hid (BX w ((g, 32, vc .blank) :: bs) W') → K (a.put o.dst (.pointer (some ⟨g, 0, none⟩))) W') : o.wp Tryz.prog a W K Q := by
  have hm := H.out.made 32 (vc .blank); unfold Oper.wp execOp; rw [ho]; simp only [vc] at hm h; go_simp; exact h _ _ (Lib.hid hm)
theorem al_d (H : Hid (BX w bs W)) (ho : o.op = .alloc 30) (h : ∀ g W', Hid (BX w ((g, 30, dc 0 0) :: bs) W') → K (a.put o.dst (.pointer (some ⟨g, 0, none⟩))) W') : o.wp Tryz.prog a W K Q := by
  have hm := H.out.made 30 (dc 0 0); unfold Oper.wp execOp; rw [ho]; simp only [dc] at hm h; go_simp; exact h _ _ (Lib.hid hm)
theorem bx_v (H : Hid (BX w bs W)) (x : Operand) (ho : o.op = .box 32 x) (hx : a.eval x = .agg (vc v).toArray) (h : ∀ g W', Hid (BX w ((g, 32, vc v) :: bs) W') → K (a.put o.dst (.pointer (some ⟨g, 0, none⟩))) W') : o.wp Tryz.prog a W K Q := by
  have hm := H.out.made 32 (vc v); unfold Oper.wp execOp; rw [ho]; simp only [hx]; clear ho hx
  cases v <;> (simp only [vc] at hm h ⊢; go_simp; exact h _ _ (Lib.hid hm))
theorem bx_d (H : Hid (BX w bs W)) (x : Operand) (ho : o.op = .box 30 x) (hx : a.eval x = .agg (dc m s).toArray) (h : ∀ g W', Hid (BX w ((g, 30, dc m s) :: bs) W') → K (a.put o.dst (.pointer (some ⟨g, 0, none⟩))) W') : o.wp Tryz.prog a W K Q := by
  have hm := H.out.made 30 (dc m s); unfold Oper.wp execOp; rw [ho]; simp only [hx]; clear ho hx; simp only [dc] at hm h ⊢; go_simp; exact h _ _ (Lib.hid hm)
theorem res_v {fn : Func} {q : Tmp} (h : fn.results = #[.cell q 32]) {tmps : Array Value} {w : World} {bs : Bxs} {W : World} (H : Hid (BX w bs W)) (hi : bs[i]? = some (g, 32, vc v)) (hp : tmps.getD q undef = .pointer (some ⟨g, 0, none⟩)) :
    (results fn tmps).run Tryz.prog W = .ok (.agg (vc v).toArray) W :=
  results_cell_row h tmps W g 32 (vc v).toArray (0, 0) _ hp (H.out.get hi) Tryz.underlying32 rfl (by rw [List.size_toArray, vc_len]; kernel_rfl)
end
def ac (b : Bool) (A : Option Addr) (n c : Nat) : List Value := [.bool b, .slice A n c]
theorem ac_one (b : Bool) (A : Option Addr) (n c : Nat) : ∀ u ∈ ac b A n c, u.oneCell' = true := by
  intro u hu; simp only [ac, List.mem_cons, List.not_mem_nil, or_false] at hu
  rcases hu with rfl | rfl <;> rfl
section
variable {o : Oper} {a : Act} {w W : World} {K : Act → World → Prop} {Q : Exit → Act → World → Prop} {bs : Bxs} {g i k : Nat} {T : TypeId} {cs : List Value} {u : Value} {v : VX} {b : Bool} {A : Option Addr} {n c : Nat}
theorem ld_a (i : Nat) (H : Hid (BX w bs W)) (hi : bs[i]? = some (g, 55, ac b A n c)) (x : Operand) (ho : o.op = .load 55 x) (hx : a.eval x = .pointer (some ⟨g, 0, none⟩)) (h : K (a.put o.dst (.agg (ac b A n c).toArray)) W) : o.wp Tryz.prog a W K Q :=
  ld_g rtArg H hi x ho hx h
theorem st_a (i : Nat) (H : Hid (BX w bs W)) {b0 : Bool} {A0 : Option Addr} {n0 c0 : Nat} (hi : bs[i]? = some (g, 55, ac b0 A0 n0 c0)) (x y : Operand) (ho : o.op = .store 55 x y) (hx : a.eval x = .pointer (some ⟨g, 0, none⟩)) (hy : a.eval y = .agg (ac b A n c).toArray)
    (h : ∀ W', Hid (BX w (bs.set i (g, 55, ac b A n c)) W') → K (a.put o.dst undef) W') : o.wp Tryz.prog a W K Q :=
  st_g rtArg (ac_one b A n c) H hi rfl x y ho hx hy h
theorem al_a (H : Hid (BX w bs W)) (ho : o.op = .alloc 55) (h : ∀ g W', Hid (BX w ((g, 55, ac false none 0 0) :: bs) W') → K (a.put o.dst (.pointer (some ⟨g, 0, none⟩))) W') : o.wp Tryz.prog a W K Q := by
  have hm := H.out.made 55 (ac false none 0 0); unfold Oper.wp execOp; rw [ho]; simp only [ac] at hm h; go_simp; exact h _ _ (Lib.hid hm)
theorem bx_a (H : Hid (BX w bs W)) (x : Operand) (ho : o.op = .box 55 x) (hx : a.eval x = .agg (ac b A n c).toArray) (h : ∀ g W', Hid (BX w ((g, 55, ac b A n c) :: bs) W') → K (a.put o.dst (.pointer (some ⟨g, 0, none⟩))) W') : o.wp Tryz.prog a W K Q := by
  have hm := H.out.made 55 (ac b A n c); unfold Oper.wp execOp; rw [ho]; simp only [hx]; clear ho hx; simp only [ac] at hm h ⊢; go_simp; exact h _ _ (Lib.hid hm)
theorem res_a {fn : Func} {q : Tmp} (h : fn.results = #[.cell q 55]) {tmps : Array Value} (H : Hid (BX w bs W)) (hi : bs[i]? = some (g, 55, ac b A n c)) (hp : tmps.getD q undef = .pointer (some ⟨g, 0, none⟩)) :
    (results fn tmps).run Tryz.prog W = .ok (.agg (ac b A n c).toArray) W :=
  results_cell_row h tmps W g 55 (ac b A n c).toArray (0, 0) _ hp (H.out.get hi) Tryz.underlying55 rfl (by kernel_rfl)
theorem lf_int (i : Nat) (H : Hid (BX w bs W)) (hi : bs[i]? = some (g, T, cs)) (x : Operand) (ho : o.op = .load 3 x) (hx : a.eval x = .pointer (some ⟨g, k, none⟩)) (hc : cs[k]? = some u) (h : K (a.put o.dst u) W) : o.wp Tryz.prog a W K Q := by
  have c := H.out.cell hi k; rw [hc] at c; unfold Oper.wp execOp; rw [ho]; simp only [hx]; clear ho hx hc hi H; go_simp; exact h
theorem lf_i64 (i : Nat) (H : Hid (BX w bs W)) (hi : bs[i]? = some (g, T, cs)) (x : Operand) (ho : o.op = .load 2 x) (hx : a.eval x = .pointer (some ⟨g, k, none⟩)) (hc : cs[k]? = some u) (h : K (a.put o.dst u) W) : o.wp Tryz.prog a W K Q := by
  have c := H.out.cell hi k; rw [hc] at c; unfold Oper.wp execOp; rw [ho]; simp only [hx]; clear ho hx hc hi H; go_simp; exact h
theorem lf_bool (i : Nat) (H : Hid (BX w bs W)) (hi : bs[i]? = some (g, T, cs)) (x : Operand) (ho : o.op = .load 4 x) (hx : a.eval x = .pointer (some ⟨g, k, none⟩)) (hc : cs[k]? = some u) (h : K (a.put o.dst u) W) : o.wp Tryz.prog a W K Q := by
  have c := H.out.cell hi k; rw [hc] at c; unfold Oper.wp execOp; rw [ho]; simp only [hx]; clear ho hx hc hi H; go_simp; exact h
theorem lf_vals (i : Nat) (H : Hid (BX w bs W)) (hi : bs[i]? = some (g, T, cs)) (x : Operand) (ho : o.op = .load 53 x) (hx : a.eval x = .pointer (some ⟨g, k, none⟩)) (hc : cs[k]? = some u) (h : K (a.put o.dst u) W) : o.wp Tryz.prog a W K Q := by
  have c := H.out.cell hi k; rw [hc] at c; unfold Oper.wp execOp; rw [ho]; simp only [hx]; clear ho hx hc hi H; go_simp; exact h
theorem ld_k (i : Nat) (H : Hid (BX w bs W)) (hi : bs[i]? = some (g, 32, vc v)) (x : Operand) (ho : o.op = .load 3 x) (hx : a.eval x = .pointer (some ⟨g, 0, none⟩)) (h : K (a.put o.dst (.int .i64 v.kind)) W) : o.wp Tryz.prog a W K Q :=
  lf_int i H hi x ho hx (vc_kind v) h
end
end Go.Proofs.YtngkolcpbgibcaaGreatDoor
