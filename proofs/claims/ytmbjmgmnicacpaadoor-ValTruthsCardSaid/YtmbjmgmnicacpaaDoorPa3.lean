/- dec.Parse of any text by its contract: it tells what the reference's way tells. Condition: the text is not too long. -/
import Derived.Test.YtmbjmgmnicacpaaDoorPa2
namespace Go.Proofs.YtmbjmgmnicacpaaDoor
open Go.RowKit

/-- What a text is as a decimal. -/
def pD (l : List UInt8) : DR := refM l (isNeg l) (pre (isNeg l)).length
/-- l without its minus. -/
def unneg (l : List UInt8) : List UInt8 := if isNeg l then l.drop 1 else l
theorem neg_cut (l : List UInt8) : l = pre (isNeg l) ++ unneg l ∧ (isNeg l = false → (unneg l).head? ≠ some 45) ∧ Lib.hasPrefix l [45] = isNeg l ∧ Lib.trimPrefix l [45] = unneg l := by
  rcases l with _ | ⟨c, l⟩
  · exact ⟨rfl, by simp [unneg, isNeg], rfl, rfl⟩
  · by_cases hc : c = 45
    · subst hc
      exact ⟨rfl, by simp [isNeg], rfl, rfl⟩
    · have h1 : isNeg (c :: l) = false := by simp [isNeg, hc]
      have h2 : Lib.hasPrefix (c :: l) [45] = false := by
        have : ¬ (45 : UInt8) = c := fun h => hc h.symm
        simp [Lib.hasPrefix, List.isPrefixOf, this]
      have h3 : unneg (c :: l) = c :: l := by unfold unneg; rw [h1]; rfl
      refine ⟨by rw [h1, h3]; rfl, fun _ => by rw [h3]; simpa using hc, by rw [h1, h2], ?_⟩
      unfold Lib.trimPrefix
      rw [h2, h3]
      rfl
theorem suf_last (t : List UInt8) : Lib.hasSuffix t [48] = (t.getLast? == some 48) := by
  rcases List.eq_nil_or_concat t with rfl | ⟨q, x, rfl⟩
  · rfl
  · simp only [Lib.hasSuffix, List.isSuffixOf, List.concat_eq_append, List.reverse_append, List.reverse_cons, List.reverse_nil, List.nil_append, List.cons_append, List.isPrefixOf, Bool.and_true, List.getLast?_append, List.getLast?_singleton, Option.some_or]
    by_cases h : x = 48
    · subst h
      rfl
    · rw [show ((48 : UInt8) == x) = false from beq_eq_false_iff_ne.2 fun h' => h h'.symm]
      exact (beq_eq_false_iff_ne.2 fun h' => h (Option.some.inj h')).symm
theorem gv_gq (l : List UInt8) : gv l = gq l := rfl
theorem asc_dig {l : List UInt8} (h : ∀ c ∈ l, dq c = true ∨ c = 46) : Asc ⟨l.toArray⟩ := by
  intro i hi
  have hm : (⟨l.toArray⟩ : ByteArray)[i] ∈ l := List.getElem_mem (l := l) (n := i) (by simpa [ByteArray.size] using hi)
  rcases h _ hm with h | h
  · simp only [dq, Bool.and_eq_true, decide_eq_true_eq] at h
    omega
  · rw [h]
    decide
theorem all_dq {l : List UInt8} (h : digsB l = true) : ∀ c ∈ l, dq c = true := by
  unfold digsB at h
  rw [Bool.and_eq_true] at h
  exact List.all_eq_true.1 h.1
theorem whole_dq {l : List UInt8} (h : wholeB l = true) : digsB l = true := by
  unfold wholeB at h
  rw [Bool.and_eq_true] at h
  exact h.1
theorem bsize (l : List UInt8) : (⟨l.toArray⟩ : ByteArray).size = l.length := by simp [ByteArray.size]
theorem blist (l : List UInt8) : (⟨l.toArray⟩ : ByteArray).toList = l := by rw [ByteArray.toList_eq]
theorem ex_left (w t : List UInt8) : (⟨(w ++ 46 :: t).toArray⟩ : ByteArray).extract 0 w.length = ⟨w.toArray⟩ := by
  apply ByteArray.ext
  simp
theorem ex_right (w t : List UInt8) : (⟨(w ++ 46 :: t).toArray⟩ : ByteArray).extract (w.length + 1) (⟨(w ++ 46 :: t).toArray⟩ : ByteArray).size = ⟨t.toArray⟩ := by
  apply ByteArray.ext
  rw [bsize, ByteArray.data_extract]
  apply Array.toList_inj.1
  rw [Array.toList_extract, List.length_append, List.length_cons]
  simp only [List.extract_eq_take_drop]
  rw [show w ++ 46 :: t = (w ++ [46]) ++ t by simp, show w.length + 1 = (w ++ [46]).length by simp, List.drop_left, List.take_of_length_le (by simp; omega)]

def ParseTo (s : ByteArray) (w : World) (r : DR) : Prop := Calls Tryd.prog 33 #[.string s] w fun e w' => e = .returned (dv r) ∧ Below w.heap.size w w'

theorem gather_c {l : List UInt8} (h : ∀ c ∈ l, dq c = true ∨ c = 46) (hl : l.length ≤ 100000000000) (W : World) :
    Calls Tryd.prog 51 #[.string ⟨l.toArray⟩] W fun e w' => e = .returned (.tuple #[.int .u64 (gN l : Nat), .bool (gB l)]) ∧ Below W.heap.size W w' :=
  gather_any (w := W) (asc_dig h) (by rw [bsize]; omega)

theorem parse_cases {l r u t : List UInt8} {b p : Bool} {w : World} (hl : l.length ≤ 10000000000) (hr : r.length ≤ 10000000000) (hu : u.length ≤ 10000000000) (ht : t.length ≤ 10000000000)
    (K1 : ∀ W : World, Calls Tryd.prog 47 #[.string ⟨l.toArray⟩, .string ⟨#[45]⟩] W fun e w' => e = .returned (.tuple #[.string ⟨r.toArray⟩, .bool b]) ∧ w' = W)
    (K2 : ∀ W : World, Calls Tryd.prog 48 #[.string ⟨r.toArray⟩, .string ⟨#[46]⟩] W fun e w' => e = .returned (.tuple #[.string ⟨u.toArray⟩, .string ⟨t.toArray⟩, .bool p]) ∧ Below W.heap.size W w')
    (hg : gq r = gq (u ++ t)) (hd : wholeB u = true → (p = true → digsB t = true) → ∀ c ∈ r, dq c = true ∨ c = 46) (hp : p = false → t = []) : ParseTo ⟨l.toArray⟩ w (parseP l b u t p) := by
  unfold ParseTo
  by_cases h0 : l = [45, 48]
  · subst h0
    have : parseP [45, 48] b u t p = ⟨0, 0, 2⟩ := by unfold parseP; rw [if_pos (.inl rfl)]
    rw [this]
    cases p
    · have := pw_neg0_n K1 K2 (w := w)
      exact this
    · have := pw_neg0_p K1 K2 (w := w)
      exact this
  · have hs : ((⟨l.toArray⟩ : ByteArray).toList == [45, 48]) = false := by rw [blist]; simpa using h0
    have K3 : ∀ W : World, Calls Tryd.prog 49 #[.string ⟨u.toArray⟩] W fun e w' => e = .returned (.bool (wholeB u)) ∧ Below W.heap.size W w' := fun W => isWhole_l (by omega)
    have K4 : ∀ W : World, Calls Tryd.prog 50 #[.string ⟨t.toArray⟩] W fun e w' => e = .returned (.bool (digsB t)) ∧ Below W.heap.size W w' := fun W => isDigits_l (by omega)
    by_cases h1 : wholeB u = false
    · have : parseP l b u t p = ⟨0, 0, 2⟩ := by unfold parseP; rw [if_pos (.inr (.inl h1))]
      rw [this]
      rw [h1] at K3
      cases p
      · exact pw_whole_n hs K1 K2 K3
      · exact pw_whole_p hs K1 K2 K3
    · have h1' : wholeB u = true := by simpa using h1
      rw [h1'] at K3
      by_cases h2 : p = true ∧ digsB t = false
      · have : parseP l b u t p = ⟨0, 0, 2⟩ := by unfold parseP; rw [if_pos (.inr (.inr h2))]
        rw [this]
        obtain ⟨rfl, h2⟩ := h2
        rw [h2] at K4
        exact pw_digits hs K1 K2 K3 K4
      · have hdt : p = true → digsB t = true := fun hp => by
          cases h : digsB t
          · exact absurd ⟨hp, h⟩ h2
          · rfl
        have hall := hd h1' hdt
        have e0 : parseP l b u t p = numE b (gq r) t.length (t.getLast? == some 48) := by
          unfold parseP
          rw [if_neg (by rintro (h | h | h); exact h0 h; exact h1 h; exact h2 h), hg]
        rw [e0]
        have K5 := gather_c hall (by omega)
        by_cases h3 : gv r < 18446744073709551616
        · obtain ⟨e1, e2⟩ := gNB_yes h3
          rw [e1, e2] at K5
          rw [gv_gq] at h3 K5
          generalize gq r = n at *
          have K6 : ∀ W : World, Calls Tryd.prog 52 #[.agg #[.bool b, .int .u64 0, .int .u64 (n : Nat)]] W fun e w' => e = .returned (.tuple #[.int .i64 (nrv b n), .bool (nrw b n)]) ∧ Below W.heap.size W w' := fun W => by
            have := narrow_any (w := W) (b := b) (n := n) (by omega)
            rw [wd_small h3] at this
            exact this
          unfold numE
          by_cases h4 : n ≤ most b
          · have e3 : nrw b n = true := decide_eq_true h4
            have e4 : nrv b n = sgn b n := if_pos h4
            rw [e3, e4] at K6
            rw [if_pos h4]
            by_cases h5 : 9 < t.length
            · rw [if_pos (.inl h5)]
              cases p
              · exact absurd (hp rfl) (by rintro rfl; simp at h5)
              · have hdt' := hdt rfl
                rw [hdt'] at K4
                exact pw_long_p hs K1 K2 K3 K4 K5 K6 (by rw [bsize]; exact h5)
            · have K7 : ∀ W : World, Calls Tryd.prog 53 #[.string ⟨t.toArray⟩, .string ⟨#[48]⟩] W fun e w' => e = .returned (.bool (t.getLast? == some 48)) ∧ w' = W := fun W => hs_of (by rw [bsize]; omega) (suf_last t)
              by_cases h6 : (t.getLast? == some 48) = true
              · rw [if_pos (.inr h6)]
                rw [h6] at K7
                cases p
                · exact pw_nought_n hs K1 K2 K3 K5 K6 K7 (by rw [bsize]; omega)
                · have hdt' := hdt rfl
                  rw [hdt'] at K4
                  exact pw_nought_p hs K1 K2 K3 K4 K5 K6 K7 (by rw [bsize]; omega)
              · have h6' : (t.getLast? == some 48) = false := by simpa using h6
                rw [if_neg (by rintro (h | h); exact h5 h; exact h6 h)]
                rw [h6'] at K7
                unfold dv
                cases p
                · have := pw_good_n (w := w) hs K1 K2 K3 K5 K6 K7 (by rw [bsize]; omega)
                  rw [bsize] at this
                  exact this
                · have hdt' := hdt rfl
                  rw [hdt'] at K4
                  have := pw_good_p (w := w) hs K1 K2 K3 K4 K5 K6 K7 (by rw [bsize]; omega)
                  rw [bsize] at this
                  exact this
          · have e3 : nrw b n = false := decide_eq_false h4
            rw [e3] at K6
            rw [if_neg h4]
            cases p
            · exact pw_wide_n hs K1 K2 K3 K5 K6
            · have hdt' := hdt rfl
              rw [hdt'] at K4
              exact pw_wide_p hs K1 K2 K3 K4 K5 K6
        · obtain ⟨e1, e2⟩ := gNB_no h3
          rw [e1, e2] at K5
          rw [gv_gq] at h3
          have h4 : ¬ gq r ≤ most b := by unfold most; split <;> omega
          unfold numE
          rw [if_neg h4]
          cases p
          · exact pw_great_n hs K1 K2 K3 K5
          · have hdt' := hdt rfl
            rw [hdt'] at K4
            exact pw_great_p hs K1 K2 K3 K4 K5

theorem parse_l {w : World} (l : List UInt8) (hl : l.length ≤ 100000000) : ParseTo ⟨l.toArray⟩ w (pD l) := by
  obtain ⟨h1, h2, h3, h4⟩ := neg_cut l
  have hlen : (unneg l).length ≤ l.length := by unfold unneg; split <;> simp
  have K1 : ∀ W : World, Calls Tryd.prog 47 #[.string ⟨l.toArray⟩, .string ⟨#[45]⟩] W fun e w' => e = .returned (.tuple #[.string ⟨(unneg l).toArray⟩, .bool (isNeg l)]) ∧ w' = W := fun W => cp_of h4 h3
  rcases point_cases (unneg l) with ⟨hno, hi⟩ | ⟨u, t, hr, hno, hi⟩
  · have : pD l = parseP l (isNeg l) (unneg l) [] false := ref_none h1 h2 hno
    rw [this]
    have K2 : ∀ W : World, Calls Tryd.prog 48 #[.string ⟨(unneg l).toArray⟩, .string ⟨#[46]⟩] W fun e w' => e = .returned (.tuple #[.string ⟨(unneg l).toArray⟩, .string ⟨([] : List UInt8).toArray⟩, .bool false]) ∧ Below W.heap.size W w' := fun W => cut_any (fun W => cut0_no hi) rfl
    exact parse_cases (by omega) (by omega) (by omega) (by simp) K1 K2 (by rw [List.append_nil]) (fun hw _ c hc => .inl (all_dq (whole_dq hw) c hc)) (fun _ => rfl)
  · have : pD l = parseP l (isNeg l) u t true := ref_point (by rw [hr] at h1; exact h1) hno
    rw [this]
    have hlt : u.length + 1 + t.length ≤ 100000000 := by rw [hr] at hlen; simp at hlen; omega
    rw [hr] at K1
    have K2 : ∀ W : World, Calls Tryd.prog 48 #[.string ⟨(u ++ 46 :: t).toArray⟩, .string ⟨#[46]⟩] W fun e w' => e = .returned (.tuple #[.string ⟨u.toArray⟩, .string ⟨t.toArray⟩, .bool true]) ∧ Below W.heap.size W w' := fun W => by
      have := fun W => cut0_yes (w := W) (s := ⟨(u ++ 46 :: t).toArray⟩) (i := u.length) (by rw [hr] at hi; exact hi) (by rw [bsize, List.length_append, List.length_cons]; omega) (by rw [bsize, List.length_append, List.length_cons]; omega)
      rw [ex_left, ex_right] at this
      exact cut_any this rfl
    refine parse_cases (by omega) (by simp; omega) (by omega) (by omega) K1 K2 (gq_point u t) (fun hw hp c hc => ?_) (fun h => by cases h)
    rcases List.mem_append.1 hc with h | h
    · exact .inl (all_dq (whole_dq hw) c h)
    · rcases List.mem_cons.1 h with h | h
      · exact .inr h
      · exact .inl (all_dq (hp rfl) c h)
end Go.Proofs.YtmbjmgmnicacpaaDoor
