/- Texts, plainly: runes of bytes, units of runes, units as a text. No condition; no model. -/
/- Texts in order: by runes and by bytes they stand alike, as long as they are valid. No program; no condition but that. -/
/- Words as decimals: what dec.Parse and the reference's ParseDec tell, as functions of a list of bytes, and that both tell the same. No program; no condition. -/
/- Values, plainly: their five forms, their order. No program; no condition but the forms' own. -/
/- Contracts of the library, laid at this program: one application each. -/
/- str.isHigh, str.isLow, (*strings.Builder).copyCheck and WriteRune by their contracts (the library's, walked anew at this dump). Condition: the builder is the call's own, and is not too long. -/
import Derived.Lib.ValidLaws
import GoSem.Op.String
import Derived.Test.YtngkolcpbgibcaaGreatDoorArg
import Derived.Test.YtngkolcpbgibcaaGreatDoorWide
import Derived.Lib.Bytealg
import Derived.Shelf.Strings.Builder1
import Derived.Shelf.Small.Bits
import Derived.Shelf.Small.Wraps
import Derived.Shelf.Strings.BuilderF
import Derived.Shelf.Strings.BuilderK
import Derived.Shelf.Strings.BuilderRune
import Derived.Shelf.Utf8.AppendRune
import Derived.Shelf.Strings.Builder2Cap
import Derived.Shelf.Strconv.Itoa0
import Derived.Shelf.Strconv.Itoa1
import Derived.Shelf.Strconv.Itoa2
import Derived.Shelf.Strings.Search1
import Derived.Shelf.Strings.Search2
import Derived.Shelf.Strings.Prefix
import Derived.Shelf.Bits.Mul64
import Derived.Shelf.Strings.Repeat
import Derived.Shelf.Strings.BuilderCap
import Derived.Shelf.Slices.Turned
import Derived.Test.YtngkolcpbgibcaaGreatDoorProg
import Derived.Test.YtngkolcpbgibcaaGreatDoorEarly
set_option linter.unusedVariables false
set_option linter.unusedSimpArgs false
namespace Go.Proofs.YtngkolcpbgibcaaGreatDoor
open Go.Lib
def rnsGo : Nat → List UInt8 → List Int
  | 0, _ => []
  | n + 1, l => if l = [] then [] else ((decodeL l).1 : Int) :: rnsGo n (l.drop (decodeL l).2)
def rns (l : List UInt8) : List Int := rnsGo l.length l
theorem rnsGo_nil : ∀ n, rnsGo n [] = []
  | 0 => rfl
  | _ + 1 => by simp [rnsGo]
theorem rnsGo_fuel : ∀ (n m : Nat) (l : List UInt8), l.length ≤ n → l.length ≤ m → rnsGo n l = rnsGo m l
  | 0, m, l, hn, _ => by
    have : l = [] := List.eq_nil_of_length_eq_zero (by omega); subst this; rw [rnsGo_nil, rnsGo_nil]
  | n + 1, 0, l, _, hm => by
    have : l = [] := List.eq_nil_of_length_eq_zero (by omega); subst this; rw [rnsGo_nil, rnsGo_nil]
  | n + 1, m + 1, l, hn, hm => by
    by_cases hne : l = []
    · subst hne; rw [rnsGo_nil, rnsGo_nil]
    · have hw := decodeL_width l; have hl : 0 < l.length := List.length_pos_iff.2 hne; simp only [rnsGo, if_neg hne]; rw [rnsGo_fuel n m _ (by rw [List.length_drop]; omega) (by rw [List.length_drop]; omega)]
theorem rns_nil : rns [] = [] := rfl
theorem rns_step (l : List UInt8) (hne : l ≠ []) : rns l = ((decodeL l).1 : Int) :: rns (l.drop (decodeL l).2) := by
  have hw := decodeL_width l; have hl : 0 < l.length := List.length_pos_iff.2 hne; unfold rns; obtain ⟨n, hn⟩ : ∃ n, l.length = n + 1 := ⟨l.length - 1, by omega⟩
  rw [hn]; simp only [rnsGo, if_neg hne]; rw [rnsGo_fuel n _ _ (by rw [List.length_drop]; omega) (Nat.le_refl _)]
theorem decodeL_app (a b : List UInt8) (hne : a ≠ []) (hv : ¬ ((decodeL a).1 = 65533 ∧ (decodeL a).2 = 1)) : decodeL (a ++ b) = decodeL a := by
  have hl : 0 < a.length := List.length_pos_iff.2 hne
  have hg : ∀ i, i < a.length → (a ++ b).getD i 0 = a.getD i 0 := fun i hi => by
    simp [List.getD_eq_getElem?_getD, List.getElem?_append_left hi]
  have hm : (a ++ b).length = a.length + b.length := List.length_append; rw [decodeL_N] at hv ⊢; rw [decodeL_N]
  rcases decodeN_shape a.length (a.getD 0 0).toNat (a.getD 1 0).toNat (a.getD 2 0).toNat (a.getD 3 0).toNat with ⟨c, e⟩ | ⟨c1, c2, c3, cv, e⟩ | ⟨c1, c2, c3, c4, cv, cs, e⟩ | ⟨c1, c2, c3, c4, c5, cv, cw, e⟩ | e
  · rw [e, hg 0 hl]; unfold decodeN; rw [if_pos c]
  · rw [e, hg 0 hl, hg 1 c2]; unfold decodeN; rw [if_neg (by omega), if_pos ⟨c1, by omega, c3⟩, if_pos cv]
  · rw [e, hg 0 hl, hg 1 (by omega), hg 2 c2]; unfold decodeN; rw [if_neg (by omega), if_neg (by omega), if_pos ⟨c1, ⟨by omega, c3⟩, by omega, c4⟩, if_pos ⟨by omega, by omega⟩]
  · rw [e, hg 0 hl, hg 1 (by omega), hg 2 (by omega), hg 3 c2]; unfold decodeN; rw [if_neg (by omega), if_neg (by omega), if_neg (by omega), if_pos ⟨c1, ⟨by omega, c3⟩, ⟨by omega, c4⟩, by omega, c5⟩, if_pos ⟨by omega, by omega⟩]
  · rw [e] at hv; exact absurd ⟨rfl, rfl⟩ hv
theorem valid_head {l : List UInt8} (hne : l ≠ []) (h : validD l = true) : (¬ ((decodeL l).1 = 65533 ∧ (decodeL l).2 = 1)) ∧ validD (l.drop (decodeL l).2) = true := by
  rw [validD_step l hne] at h
  by_cases hb : (decodeL l).1 = 65533 ∧ (decodeL l).2 = 1
  · rw [if_pos hb] at h; cases h
  · rw [if_neg hb] at h; exact ⟨hb, h⟩
theorem text_app : ∀ (n : Nat) (a b : List UInt8), a.length ≤ n → validD a = true → validD (a ++ b) = validD b ∧ rns (a ++ b) = rns a ++ rns b
  | 0, a, b, hn, _ => by
    have : a = [] := List.eq_nil_of_length_eq_zero (by omega); subst this; simp [rns_nil]
  | n + 1, a, b, hn, hv => by
    by_cases hne : a = []
    · subst hne; simp [rns_nil]
    · obtain ⟨h1, h2⟩ := valid_head hne hv; have hd := decodeL_app a b hne h1; have hw := decodeL_width a; have hle := decodeL_le a hne
      have hdrop : (a ++ b).drop (decodeL a).2 = a.drop (decodeL a).2 ++ b := by
        rw [List.drop_append_of_le_length hle]
      have hne2 : a ++ b ≠ [] := by simp [hne]
      obtain ⟨i1, i2⟩ := text_app n (a.drop (decodeL a).2) b (by rw [List.length_drop]; omega) h2; refine ⟨?_, ?_⟩
      · rw [validD_step _ hne2, hd, if_neg h1, hdrop, i1]
      · rw [rns_step _ hne2, hd, hdrop, i2, rns_step a hne, List.cons_append]
def okR (r : Int) : Prop := 0 ≤ r ∧ r ≤ 1114111 ∧ ¬ (55296 ≤ r ∧ r < 57344)
theorem decode_ok (l : List UInt8) (hv : ¬ ((decodeL l).1 = 65533 ∧ (decodeL l).2 = 1)) : okR ((decodeL l).1 : Int) := by
  have hr := decodeL_rune l; have k0 := (l.getD 0 0).toNat_lt; have k1 := (l.getD 1 0).toNat_lt; refine ⟨by omega, by omega, ?_⟩; rw [decodeL_N] at hv hr ⊢
  rcases decodeN_shape l.length (l.getD 0 0).toNat (l.getD 1 0).toNat (l.getD 2 0).toNat (l.getD 3 0).toNat with ⟨c, e⟩ | ⟨c1, c2, c3, cv, e⟩ | ⟨c1, c2, c3, c4, cv, cs, e⟩ | ⟨c1, c2, c3, c4, c5, cv, cw, e⟩ | e
  · rw [e]; dsimp only; omega
  · rw [e]; dsimp only; omega
  · rw [e]; dsimp only; omega
  · rw [e]; dsimp only; omega
  · rw [e] at hv; exact absurd ⟨rfl, rfl⟩ hv
theorem rns_ok : ∀ (n : Nat) (l : List UInt8), l.length ≤ n → validD l = true → ∀ r ∈ rns l, okR r
  | 0, l, hn, _ => by
    have : l = [] := List.eq_nil_of_length_eq_zero (by omega); subst this; simp [rns_nil]
  | n + 1, l, hn, hv => by
    by_cases hne : l = []
    · subst hne; simp [rns_nil]
    · obtain ⟨h1, h2⟩ := valid_head hne hv; have hw := decodeL_width l; have hl : 0 < l.length := List.length_pos_iff.2 hne; intro r hr; rw [rns_step l hne] at hr
      rcases List.mem_cons.1 hr with rfl | hr
      · exact decode_ok l h1
      · exact rns_ok n _ (by rw [List.length_drop]; omega) h2 r hr
theorem enc_rns : ∀ (n : Nat) (l : List UInt8), l.length ≤ n → validD l = true → (rns l).flatMap encodeRune = l
  | 0, l, hn, _ => by
    have : l = [] := List.eq_nil_of_length_eq_zero (by omega); subst this; simp [rns_nil]
  | n + 1, l, hn, hv => by
    by_cases hne : l = []
    · subst hne; simp [rns_nil]
    · obtain ⟨h1, h2⟩ := valid_head hne hv; have hw := decodeL_width l; have hl : 0 < l.length := List.length_pos_iff.2 hne; rw [rns_step l hne, List.flatMap_cons, encode_decode l hne h1, enc_rns n _ (by rw [List.length_drop]; omega) h2, List.take_append_drop]
theorem enc_back {l : List UInt8} (hv : validD l = true) : (rns l).flatMap encodeRune = l := enc_rns _ l (Nat.le_refl _) hv
def uni (r : Int) : List Int := if r < 65536 then [r] else [55296 + (r - 65536) / 1024, 56320 + r % 1024]
def unis (l : List UInt8) : List Int := (rns l).flatMap uni
def unN (l : List UInt8) : Nat := (unis l).length
def uE (l : List UInt8) : Int := if validD l = false then 2 else if 1000 < unN l then 4 else 0
def uV (l : List UInt8) : Int := if uE l = 0 then unN l else 0
theorem drop_ne (s : ByteArray) (pos : Nat) (h : pos < s.size) : s.data.toList.drop pos ≠ [] := by
  have hlen : s.data.toList.length = s.size := by simp
  intro hh; have := congrArg List.length hh; rw [List.length_drop, List.length_nil] at this; omega
theorem decode_drop (s : ByteArray) (pos : Nat) : decodeL (s.data.toList.drop pos) = Utf8.decode s pos := by
  rw [decodeL_N, decode_N]; simp [List.length_drop]
theorem decode_le (s : ByteArray) (pos : Nat) (h : pos < s.size) : pos + (Utf8.decode s pos).2 ≤ s.size := by
  have := decodeL_le _ (drop_ne s pos h); rw [decode_drop, List.length_drop] at this; simp at this; omega
theorem rns_at (s : ByteArray) (pos : Nat) (h : pos < s.size) : rns (s.data.toList.drop pos) = ((Utf8.decode s pos).1 : Int) :: rns (s.data.toList.drop (pos + (Utf8.decode s pos).2)) := by
  have hne := drop_ne s pos h; have hd := decode_drop s pos; rw [rns_step _ hne, hd, List.drop_drop]
theorem rns_end (s : ByteArray) (pos : Nat) (h : ¬ pos < s.size) : rns (s.data.toList.drop pos) = [] := by
  have hlen : s.data.toList.length = s.size := by simp
  rw [List.drop_eq_nil_of_le (by omega)]; rfl
end Go.Proofs.YtngkolcpbgibcaaGreatDoor
namespace Go.Proofs.YtngkolcpbgibcaaGreatDoor
open Go.Lib Go.Op
def cmpR : List Int → List Int → Int
  | [], [] => 0
  | [], _ :: _ => -1
  | _ :: _, [] => 1
  | a :: r, b :: s => if a < b then -1 else if b < a then 1 else cmpR r s
theorem cmpR_eq {a b : Int} {r s : List Int} (h : a = b) : cmpR (a :: r) (b :: s) = cmpR r s := by rw [cmpR, if_neg (by omega), if_neg (by omega)]
end Go.Proofs.YtngkolcpbgibcaaGreatDoor
namespace Go.Proofs.YtngkolcpbgibcaaGreatDoor
def dq (c : UInt8) : Bool := 48 ≤ c.toNat && c.toNat ≤ 57
def qv (c : UInt8) : Nat := c.toNat - 48
def rv (l : List UInt8) : List Nat := (l.map qv).reverse
def gqF (n : Nat) (c : UInt8) : Nat := if dq c then n * 10 + qv c else n
def gq (l : List UInt8) : Nat := l.foldl gqF 0
/-! ### The program's way -/
def digsB (l : List UInt8) : Bool := l.all dq && !l.isEmpty
def wholeB (l : List UInt8) : Bool := digsB l && (l == [48] || l.head? != some 48)
def isNeg (l : List UInt8) : Bool := l.head? == some 45
def numE (b : Bool) (n pl : Nat) (z : Bool) : DR := if n ≤ most b then (if 9 < pl ∨ z = true then ⟨0, 0, 1⟩ else ⟨sgn b n, pl, 0⟩) else ⟨0, 0, 8⟩
def parseP (l : List UInt8) (b : Bool) (w t : List UInt8) (p : Bool) : DR :=
  if l = [45, 48] ∨ wholeB w = false ∨ p = true ∧ digsB t = false then ⟨0, 0, 2⟩ else numE b (gq (w ++ t)) t.length (t.getLast? == some 48)
/-! ### The reference's way -/
def rstep (b k : Nat) (c : UInt8) (dot : Option Nat) (D : List Nat) : Option (Option Nat × List Nat) :=
  if c = 46 ∧ dot = none ∧ b < k then some (some k, D) else if dq c then some (dot, qv c :: D) else none
def rrun (b : Nat) : Nat → List UInt8 → Option Nat → List Nat → Option (Option Nat × List Nat)
  | _, [], dot, D => some (dot, D)
  | k, c :: l, dot, D => match rstep b k c dot D with
    | none => none
    | some x => rrun b (k + 1) l x.1 x.2
def refN (b : Bool) (n pl : Nat) (z : Bool) : DR :=
  if n = 0 ∧ b = true ∧ pl = 0 then ⟨0, 0, 2⟩ else if n ≤ most (b && !(n == 0)) then (if 9 < pl ∨ 0 < pl ∧ z = true then ⟨0, 0, 1⟩ else ⟨sgn (b && !(n == 0)) n, pl, 0⟩) else ⟨0, 0, 8⟩
def refM (l : List UInt8) (b : Bool) (k : Nat) : DR :=
  match rrun k k (l.drop k) none [] with
  | none => ⟨0, 0, 2⟩
  | some (none, D) => if l.length - k = 0 ∨ l.getD k 0 = 48 ∧ 1 < l.length - k then ⟨0, 0, 2⟩ else refN b (dval D) 0 (l.getLast? == some 48)
  | some (some d, D) => if d - k = 0 ∨ d + 1 = l.length ∨ l.getD k 0 = 48 ∧ 1 < d - k then ⟨0, 0, 2⟩ else refN b (dval D) (l.length - d - 1) (l.getLast? == some 48)
theorem dq_46 : dq 46 = false := by decide
theorem rv_cons (c : UInt8) (l : List UInt8) : rv (c :: l) = rv l ++ [qv c] := by simp [rv]
theorem rv_append (a l : List UInt8) : rv (a ++ l) = rv l ++ rv a := by simp [rv]
theorem rv_len (l : List UInt8) : (rv l).length = l.length := by simp [rv]
theorem rrun_digits (b : Nat) : ∀ (l : List UInt8) (k : Nat) (dot : Option Nat) (D : List Nat), (46 ∉ l ∨ dot ≠ none ∨ k ≤ b ∧ l.all dq = true) →
    rrun b k l dot D = if l.all dq then some (dot, rv l ++ D) else none
  | [], _, dot, D, _ => by simp [rrun, rv]
  | c :: l, k, dot, D, h => by
    have hs : ¬ (c = 46 ∧ dot = none ∧ b < k) := by
      rintro ⟨rfl, h1, h2⟩
      rcases h with h | h | h
      · exact h (List.mem_cons_self ..)
      · exact h h1
      · omega
    have hl : 46 ∉ l ∨ dot ≠ none ∨ k + 1 ≤ b ∧ l.all dq = true ∨ l.all dq = true := by
      rcases h with h | h | h
      · exact .inl fun h' => h (List.mem_cons_of_mem _ h')
      · exact .inr (.inl h)
      · simp only [List.all_cons, Bool.and_eq_true] at h; exact .inr (.inr (.inr h.2.2))
    have hl' : 46 ∉ l ∨ dot ≠ none ∨ k + 1 ≤ b ∧ l.all dq = true := by
      rcases hl with h | h | h | h
      · exact .inl h
      · exact .inr (.inl h)
      · exact .inr (.inr h)
      · exact .inl fun h' => by have := List.all_eq_true.1 h _ h'; rw [dq_46] at this; cases this
    rw [rrun, rstep, if_neg hs]
    cases hc : dq c
    · simp [hc]
    · simp only [if_true, List.all_cons, hc, Bool.true_and]; rw [rrun_digits b l (k + 1) dot _ hl', rv_cons]; simp
theorem rrun_point (b : Nat) (t : List UInt8) : ∀ (w : List UInt8) (k : Nat) (D : List Nat), 46 ∉ w → b ≤ k →
    rrun b k (w ++ 46 :: t) none D = if w.all dq = true ∧ b < k + w.length ∧ t.all dq = true then some (some (k + w.length), rv t ++ rv w ++ D) else none
  | [], k, D, _, hk => by
    rw [List.nil_append, rrun, rstep]
    by_cases h : b < k
    · rw [if_pos ⟨rfl, rfl, h⟩]; simp only [rrun_digits b t (k + 1) (some k) D (.inr (.inl (by simp)))]; simp [h, rv]
    · rw [if_neg (by omega), dq_46]; simp [h]
  | c :: w, k, D, hw, hk => by
    have hc46 : c ≠ 46 := fun h => hw (h ▸ List.mem_cons_self ..); rw [List.cons_append, rrun, rstep, if_neg (fun h => hc46 h.1)]
    cases hc : dq c
    · simp [hc]
    · simp only [if_true]; rw [rrun_point b t w (k + 1) _ (fun h => hw (List.mem_cons_of_mem _ h)) (by omega)]; have e : k + 1 + w.length = k + (c :: w).length := by simp; omega
      have e2 : b < k + (c :: w).length := by simp; omega
      rw [e, rv_cons]; simp [hc]
theorem gq_fold : ∀ (l : List UInt8) (n : Nat), l.all dq = true → l.foldl gqF n = n * 10 ^ l.length + dval (rv l)
  | [], n, _ => by simp [rv, dval]
  | c :: l, n, h => by
    simp only [List.all_cons, Bool.and_eq_true] at h; rw [List.foldl_cons, gq_fold l _ h.2, gqF, if_pos h.1, rv_cons, dval_snoc, rv_len, List.length_cons, Nat.pow_succ, Nat.add_mul, Nat.mul_assoc, Nat.mul_comm 10 (10 ^ l.length), Nat.mul_comm (qv c) (10 ^ l.length)]; omega
theorem gq_digits {l : List UInt8} (h : l.all dq = true) : gq l = dval (rv l) := by
  have := gq_fold l 0 h
  simpa [gq] using this
theorem gq_point (w t : List UInt8) : gq (w ++ 46 :: t) = gq (w ++ t) := by
  unfold gq; rw [List.foldl_append, List.foldl_append, List.foldl_cons]
  congr 1
theorem dval_zero_rv : ∀ {l : List UInt8}, l.all dq = true → dval (rv l) = 0 → ∀ c ∈ l, c = 48
  | [], _, _, c, hc => by simp at hc
  | c :: l, h, h0, d, hd => by
    simp only [List.all_cons, Bool.and_eq_true] at h; rw [rv_cons, dval_snoc] at h0; have hp : 0 < 10 ^ (rv l).length := Nat.pow_pos (by decide); have h1 : dval (rv l) = 0 := by omega
    have h2 : qv c = 0 := by
      rcases Nat.eq_zero_or_pos (qv c) with h2 | h2
      · exact h2
      · have := Nat.mul_pos hp h2; omega
    rcases List.mem_cons.1 hd with rfl | hd
    · have h3 := h.1; simp only [dq, Bool.and_eq_true, decide_eq_true_eq] at h3; unfold qv at h2; exact UInt8.toNat_inj.1 (by show d.toNat = 48; omega)
    · exact dval_zero_rv h.2 h1 d hd
theorem refN_numE {b z z' : Bool} {n pl : Nat} (h : ¬ (n = 0 ∧ b = true ∧ pl = 0)) (hz : z' = (decide (0 < pl) && z)) : refN b n pl z = numE b n pl z' := by
  subst hz; unfold refN numE; rw [if_neg h]
  have e1 : (n ≤ most (b && !(n == 0))) = (n ≤ most b) := by
    by_cases h0 : n = 0
    · subst h0; simp
    · have : (n == 0) = false := by simpa using h0
      rw [this, Bool.not_false, Bool.and_true]
  have e2 : sgn (b && !(n == 0)) n = sgn b n := by
    by_cases h0 : n = 0
    · subst h0
      cases b <;> simp [sgn]
    · have : (n == 0) = false := by simpa using h0
      rw [this, Bool.not_false, Bool.and_true]
  simp only [e1, e2, Bool.and_eq_true, decide_eq_true_eq]
theorem digsB_false {t : List UInt8} (h : t.all dq = true) : digsB t = false ↔ t = [] := by
  unfold digsB; rw [h, Bool.true_and]
  cases t <;> simp
theorem wholeB_false {w : List UInt8} (h : w.all dq = true) : wholeB w = false ↔ (w.length = 0 ∨ w.getD 0 0 = 48 ∧ 1 < w.length) := by
  cases w with
  | nil => simp [wholeB, digsB]
  | cons c w =>
    have : digsB (c :: w) = true := by simp [digsB, h]
    unfold wholeB; rw [this]
    cases w with
    | nil => simp
    | cons d w => simp
theorem whole_zero {w : List UInt8} (h : w.all dq = true) (hw : ¬ (w.length = 0 ∨ w.getD 0 0 = 48 ∧ 1 < w.length)) : dval (rv w) = 0 ↔ w = [48] := by
  constructor
  · intro h0; have hz := dval_zero_rv h h0
    cases w with
    | nil => simp at hw
    | cons c w =>
      have hc := hz c (List.mem_cons_self ..); subst hc
      cases w with
      | nil => rfl
      | cons d w => simp at hw
  · rintro rfl; rfl
def pre (b : Bool) : List UInt8 := if b then [45] else []
theorem ref_none {l r : List UInt8} {b : Bool} (hl : l = pre b ++ r) (hn : b = false → r.head? ≠ some 45) (h46 : 46 ∉ r) : refM l b (pre b).length = parseP l b r [] false := by
  have hlen : l.length - (pre b).length = r.length := by rw [hl]; simp
  have hget : l.getD (pre b).length 0 = r.getD 0 0 := by rw [hl, List.getD_eq_getElem?_getD, List.getElem?_append_right (Nat.le_refl _), Nat.sub_self, ← List.getD_eq_getElem?_getD]
  have hneg : l = [45, 48] ↔ b = true ∧ r = [48] := by
    subst hl
    cases b
    · simp only [pre, Bool.false_eq_true, if_false, List.nil_append, false_and, iff_false]; rintro rfl; exact hn rfl rfl
    · simp [pre]
  have hrun : rrun (pre b).length (pre b).length (l.drop (pre b).length) none [] = if r.all dq then some (none, rv r ++ []) else none := by
    rw [hl, List.drop_left]; exact rrun_digits _ r _ none [] (.inl h46)
  unfold refM parseP; rw [hrun]
  cases ha : r.all dq
  · have : wholeB r = false := by simp [wholeB, digsB, ha]
    simp [this]
  · simp only [if_true, List.append_nil, hlen, hget]
    by_cases hw : r.length = 0 ∨ r.getD 0 0 = 48 ∧ 1 < r.length
    · rw [if_pos hw, if_pos (.inr (.inl ((wholeB_false ha).2 hw)))]
    · have hw' : ¬ wholeB r = false := fun h => hw ((wholeB_false ha).1 h); rw [if_neg hw]
      by_cases h0 : b = true ∧ r = [48]
      · rw [if_pos (.inl (hneg.2 h0))]; unfold refN; rw [if_pos ⟨(whole_zero ha hw).2 h0.2, h0.1, rfl⟩]
      · have h0' : ¬ (l = [45, 48] ∨ wholeB r = false ∨ false = true ∧ digsB [] = false) := by
          rintro (h | h | h)
          · exact h0 (hneg.1 h)
          · exact hw' h
          · exact Bool.noConfusion h.1
        rw [if_neg h0', gq_digits ha]; refine refN_numE (fun h => h0 ⟨h.2.1, (whole_zero ha hw).1 h.1⟩) (by simp)
theorem ref_point {l w t : List UInt8} {b : Bool} (hl : l = pre b ++ (w ++ 46 :: t)) (h46 : 46 ∉ w) : refM l b (pre b).length = parseP l b w t true := by
  have hlen : l.length = (pre b).length + w.length + 1 + t.length := by rw [hl]; simp; omega
  have hneg : ¬ l = [45, 48] := by
    intro h; have : (46 : UInt8) ∈ l := by rw [hl]; simp
    rw [h] at this; revert this
    decide
  have hrun := rrun_point (pre b).length t w (pre b).length [] h46 (Nat.le_refl _); have hd : l.drop (pre b).length = w ++ 46 :: t := by rw [hl, List.drop_left]
  unfold refM parseP; rw [hd, hrun]
  by_cases hc : w.all dq = true ∧ (pre b).length < (pre b).length + w.length ∧ t.all dq = true
  · obtain ⟨hw, h1, ht⟩ := hc; have hw0 : w ≠ [] := by rintro rfl; simp at h1
    have hget : l.getD (pre b).length 0 = w.getD 0 0 := by
      rw [hl]
      cases w with
      | nil => exact absurd rfl hw0
      | cons c w => rw [List.getD_eq_getElem?_getD, List.getElem?_append_right (Nat.le_refl _), Nat.sub_self]; rfl
    have e1 : (pre b).length + w.length - (pre b).length = w.length := by omega
    have e2 : l.length - ((pre b).length + w.length) - 1 = t.length := by omega
    have e3 : (pre b).length + w.length + 1 = l.length ↔ t = [] := by rw [hlen, ← List.length_eq_zero_iff]; omega
    rw [if_pos ⟨hw, h1, ht⟩]; simp only [List.append_nil, hget, e1, e2]
    by_cases ht0 : t = []
    · rw [if_pos (.inr (.inl (e3.2 ht0))), if_pos (.inr (.inr ⟨trivial, (digsB_false ht).2 ht0⟩))]
    · by_cases hww : w.length = 0 ∨ w.getD 0 0 = 48 ∧ 1 < w.length
      · rw [if_pos (by rcases hww with h | h; exact .inl h; exact .inr (.inr h)), if_pos (.inr (.inl ((wholeB_false hw).2 hww)))]
      · have n1 : ¬ (w.length = 0 ∨ (pre b).length + w.length + 1 = l.length ∨ w.getD 0 0 = 48 ∧ 1 < w.length) := by
          rintro (h | h | h)
          · exact hww (.inl h)
          · exact ht0 (e3.1 h)
          · exact hww (.inr h)
        have n2 : ¬ (l = [45, 48] ∨ wholeB w = false ∨ True ∧ digsB t = false) := by
          rintro (h | h | h)
          · exact hneg h
          · exact hww ((wholeB_false hw).1 h)
          · exact ht0 ((digsB_false ht).1 h.2)
        have hpl : 0 < t.length := List.length_pos_iff.2 ht0
        have hlast : l.getLast? = t.getLast? := by
          rw [hl, ← List.append_assoc, List.getLast?_append, List.getLast?_cons]
          cases h : t.getLast? with
          | none => rw [List.getLast?_eq_none_iff] at h; exact absurd h ht0
          | some x => simp
        rw [if_neg n1, if_neg n2, gq_digits (by rw [List.all_append, hw, ht]; rfl), rv_append, hlast]; exact refN_numE (fun h => by omega) (by simp [hpl])
  · rw [if_neg hc]
    have : wholeB w = false ∨ true = true ∧ digsB t = false := by
      by_cases hw : w.all dq = true
      · by_cases ht : t.all dq = true
        · left
          have : w = [] := by
            rcases w with _ | ⟨c, w⟩
            · rfl
            · exact absurd ⟨hw, by simp, ht⟩ hc
          subst this; rfl
        · right
          refine ⟨rfl, ?_⟩; simp [digsB, ht]
      · left
        simp [wholeB, digsB, hw]
    rw [if_pos (.inr this)]
theorem point_cases : ∀ r : List UInt8, (46 ∉ r ∧ Lib.indexByte r 46 = -1) ∨ ∃ w t, r = w ++ 46 :: t ∧ 46 ∉ w ∧ Lib.indexByte r 46 = (w.length : Nat)
  | [] => .inl ⟨by simp, rfl⟩
  | c :: r => by
    by_cases hc : c = 46
    · subst hc; exact .inr ⟨[], r, rfl, by simp, by simp [Lib.indexByte]⟩
    · have hb : (c == 46) = false := by simpa using hc
      rcases point_cases r with ⟨h, hi⟩ | ⟨w, t, rfl, h, hi⟩
      · refine .inl ⟨?_, ?_⟩
        · intro h'
          rcases List.mem_cons.1 h' with h' | h'
          · exact hc h'.symm
          · exact h h'
        · rw [Lib.indexByte, hb, hi]; rfl
      · refine .inr ⟨c :: w, t, rfl, ?_, ?_⟩
        · intro h'
          rcases List.mem_cons.1 h' with h' | h'
          · exact hc h'.symm
          · exact h h'
        · rw [Lib.indexByte, hb, hi]; have : ((w.length : Nat) : Int) ≠ -1 := by omega
          simp only [Bool.false_eq_true, if_false, beq_iff_eq, this, List.length_cons]; omega
end Go.Proofs.YtngkolcpbgibcaaGreatDoor
namespace Go.Proofs.YtngkolcpbgibcaaGreatDoor
inductive VX where
  | blank
  | num (m : Int) (s : Nat)
  | str (t : List UInt8)
  | bool (b : Bool)
  | err (e : Int)
namespace VX
def kind : VX → Int
  | blank => 0
  | num .. => 1
  | str .. => 2
  | bool .. => 3
  | err .. => 4
end VX
def rk (b : Bool) : Int := if b then 1 else 0
def OkX : VX → Prop
  | .num m s => Gd m s
  | .str t => uE t = 0
  | .err e => e = 0 ∨ e = 7 ∨ e = 15 ∨ e = 23 ∨ e = 29 ∨ e = 36 ∨ e = 42
  | _ => True
def fillX : VX → VX → VX
  | .blank, .num .. => .num 0 0
  | .blank, .str .. => .str []
  | .blank, .bool .. => .bool false
  | a, _ => a
def cmpF : VX → VX → Int
  | .num m s, .num n t => cmp (val m s) (val n t)
  | .str a, .str b => cmpR (rns a) (rns b)
  | .bool a, .bool b => cmp (rk a) (rk b)
  | .err a, .err b => cmp a b
  | a, b => cmp a.kind b.kind
def cmpX (a b : VX) : Int := cmpF (fillX a b) (fillX b a)
end Go.Proofs.YtngkolcpbgibcaaGreatDoor
namespace Go.Proofs
open Go.Shelf
def Tryz.lays134_ren : Go.Shelf.Ren := ⟨fun | 134 => 191 | 129 => 208 | n => n, fun | 53 => 117 | 3 => 3 | 4 => 4 | 46 => 115 | 5 => 5 | 9 => 9 | n => n, fun | n => n⟩
theorem Tryz.lays134 : Go.Proofs.Lays.n134 Tryz.prog Tryz.lays134_ren := {
  mixed := by kernel_rfl
  f129 := Tryz.func208.trans (congrArg some (by kernel_rfl))
  f134 := Tryz.func191.trans (congrArg some (by kernel_rfl))
  t3 := Tryz.underlying3
  a3 := Tryz.isAgg3
  z3 := Tryz.sizeOf3
  v3 := Tryz.zeroValue3
  t4 := Tryz.underlying4
  a4 := Tryz.isAgg4
  z4 := Tryz.sizeOf4
  v4 := Tryz.zeroValue4
  t5 := Tryz.underlying5
  a5 := Tryz.isAgg5
  z5 := Tryz.sizeOf5
  v5 := Tryz.zeroValue5
  t9 := Tryz.underlying9
  a9 := Tryz.isAgg9
  z9 := Tryz.sizeOf9
  v9 := Tryz.zeroValue9
  t46 := Tryz.underlying115
  a46 := Tryz.isAgg115
  z46 := Tryz.sizeOf115
  v46 := Tryz.zeroValue115
  t53 := Tryz.underlying117
  a53 := Tryz.isAgg117
  z53 := Tryz.sizeOf117
  v53 := Tryz.zeroValue117 }
theorem Tryz.bits_LeadingZeros64 (x : Int) (w : World) (h0 : 0 ≤ x) (h1 : x ≤ 18446744073709551615) :
    Calls Tryz.prog 191 #[.int .u64 x] w fun e w' => e = .returned (.int .i64 (64 - (Lib.bitLen x.toNat : Int))) ∧ w' = w := Any.bits_LeadingZeros64 Tryz.lays134 x w h0 h1
def Tryz.lays264_ren : Go.Shelf.Ren := ⟨fun | 264 => 168 | n => n, fun | 53 => 117 | 46 => 115 | n => n, fun | n => n⟩
theorem Tryz.lays264 : Go.Proofs.Lays.n264 Tryz.prog Tryz.lays264_ren := {
  mixed := by kernel_rfl
  f264 := Tryz.func168.trans (congrArg some (by kernel_rfl))
  t46 := Tryz.underlying115
  a46 := Tryz.isAgg115
  z46 := Tryz.sizeOf115
  v46 := Tryz.zeroValue115
  t53 := Tryz.underlying117
  a53 := Tryz.isAgg117
  z53 := Tryz.sizeOf117
  v53 := Tryz.zeroValue117 }
open Go.RowKit Go.Lib in
theorem Tryz.bits_Mul64 (x y : Nat) (hx : x < 18446744073709551616) (hy : y < 18446744073709551616) (w : World) :
    Calls Tryz.prog 168 #[.int .u64 x, .int .u64 y] w fun e w' => e = .returned (.tuple #[.int .u64 ((x * y / 18446744073709551616 : Nat) : Int), .int .u64 ((x * y % 18446744073709551616 : Nat) : Int)]) ∧ w' = w := Any.bits_Mul64 Tryz.lays264 x y hx hy w
def Tryz.lays212_ren : Go.Shelf.Ren := ⟨fun | 212 => 205 | 263 => 215 | 264 => 168 | n => n, fun | 46 => 115 | 51 => 256 | 146 => 257 | 53 => 117 | 148 => 208 | n => n, fun | n => n⟩
theorem Tryz.lays212 : Go.Proofs.Lays.n212 Tryz.prog Tryz.lays212_ren := {
  mixed := by kernel_rfl
  f212 := Tryz.func205.trans (congrArg some (by kernel_rfl))
  f263 := Tryz.func215.trans (congrArg some (by kernel_rfl))
  f264 := Tryz.func168.trans (congrArg some (by kernel_rfl))
  t46 := Tryz.underlying115
  a46 := Tryz.isAgg115
  z46 := Tryz.sizeOf115
  v46 := Tryz.zeroValue115
  t51 := Tryz.underlying256
  a51 := Tryz.isAgg256
  z51 := Tryz.sizeOf256
  v51 := Tryz.zeroValue256
  t53 := Tryz.underlying117
  a53 := Tryz.isAgg117
  z53 := Tryz.sizeOf117
  v53 := Tryz.zeroValue117
  t146 := Tryz.underlying257
  a146 := Tryz.isAgg257
  z146 := Tryz.sizeOf257
  v146 := Tryz.zeroValue257
  t148 := Tryz.underlying208
  a148 := Tryz.isAgg208
  z148 := Tryz.sizeOf208
  v148 := Tryz.zeroValue208 }
open Go.RowKit Go.Lib in
theorem Tryz.bits_Mul (x y : Nat) (hx : x < 18446744073709551616) (hy : y < 18446744073709551616) (w : World) :
    Calls Tryz.prog 205 #[.int .u64 x, .int .u64 y] w fun e w' => e = .returned (.tuple #[.int .u64 ((x * y / 18446744073709551616 : Nat) : Int), .int .u64 ((x * y % 18446744073709551616 : Nat) : Int)]) ∧ w' = w := Any.bits_Mul Tryz.lays212 x y hx hy w
def Tryz.lays103_ren : Go.Shelf.Ren := ⟨fun | 103 => 193 | 210 => 209 | 206 => 216 | n => n, fun | 9 => 9 | 4 => 4 | 24 => 47 | 3 => 3 | n => n, fun | n => n⟩
theorem Tryz.lays103 : Go.Proofs.Lays.n103 Tryz.prog Tryz.lays103_ren := {
  mixed := by kernel_rfl
  f103 := Tryz.func193.trans (congrArg some (by kernel_rfl))
  f206 := Tryz.func216.trans (congrArg some (by kernel_rfl))
  f210 := Tryz.func209.trans (congrArg some (by kernel_rfl))
  t3 := Tryz.underlying3
  a3 := Tryz.isAgg3
  z3 := Tryz.sizeOf3
  v3 := Tryz.zeroValue3
  t4 := Tryz.underlying4
  a4 := Tryz.isAgg4
  z4 := Tryz.sizeOf4
  v4 := Tryz.zeroValue4
  t9 := Tryz.underlying9
  a9 := Tryz.isAgg9
  z9 := Tryz.sizeOf9
  v9 := Tryz.zeroValue9
  t24 := Tryz.underlying47
  a24 := Tryz.isAgg47
  z24 := Tryz.sizeOf47
  v24 := Tryz.zeroValue47 }
open Go.RowKit in
theorem Tryz.strings_CutPrefix (s p : ByteArray) (w : World) :
    Calls Tryz.prog 193 #[.string s, .string p] w fun e w' => e = .returned (.tuple #[.string ⟨(Lib.trimPrefix s.data.toList p.data.toList).toArray⟩, .bool (Lib.hasPrefix s.data.toList p.data.toList)]) ∧ w' = w := Any.strings_CutPrefix Tryz.lays103 s p w
def Tryz.lays100_ren : Go.Shelf.Ren := ⟨fun | 100 => 198 | 207 => 212 | n => n, fun | 9 => 9 | 4 => 4 | 3 => 3 | n => n, fun | n => n⟩
theorem Tryz.lays100 : Go.Proofs.Lays.n100 Tryz.prog Tryz.lays100_ren := {
  mixed := by kernel_rfl
  f100 := Tryz.func198.trans (congrArg some (by kernel_rfl))
  f207 := Tryz.func212.trans (congrArg some (by kernel_rfl))
  t3 := Tryz.underlying3
  a3 := Tryz.isAgg3
  z3 := Tryz.sizeOf3
  v3 := Tryz.zeroValue3
  t4 := Tryz.underlying4
  a4 := Tryz.isAgg4
  z4 := Tryz.sizeOf4
  v4 := Tryz.zeroValue4
  t9 := Tryz.underlying9
  a9 := Tryz.isAgg9
  z9 := Tryz.sizeOf9
  v9 := Tryz.zeroValue9 }
open Go.RowKit Go.Lib in
theorem Tryz.strings_HasSuffix (s p : ByteArray) (w : World) (hs : s.size ≤ 9223372036854775807) :
    Calls Tryz.prog 198 #[.string s, .string p] w fun e w' => e = .returned (.bool (Lib.hasSuffix s.data.toList p.data.toList)) ∧ w' = w := Any.strings_HasSuffix Tryz.lays100 s p w hs
def Tryz.lays99_ren : Go.Shelf.Ren := ⟨fun | 99 => 206 | 206 => 216 | n => n, fun | 9 => 9 | 4 => 4 | 3 => 3 | n => n, fun | n => n⟩
theorem Tryz.lays99 : Go.Proofs.Lays.n99 Tryz.prog Tryz.lays99_ren := {
  mixed := by kernel_rfl
  f99 := Tryz.func206.trans (congrArg some (by kernel_rfl))
  f206 := Tryz.func216.trans (congrArg some (by kernel_rfl))
  t3 := Tryz.underlying3
  a3 := Tryz.isAgg3
  z3 := Tryz.sizeOf3
  v3 := Tryz.zeroValue3
  t4 := Tryz.underlying4
  a4 := Tryz.isAgg4
  z4 := Tryz.sizeOf4
  v4 := Tryz.zeroValue4
  t9 := Tryz.underlying9
  a9 := Tryz.isAgg9
  z9 := Tryz.sizeOf9
  v9 := Tryz.zeroValue9 }
open Go.RowKit Go.Lib in
theorem Tryz.strings_HasPrefix (s p : ByteArray) (w : World) :
    Calls Tryz.prog 206 #[.string s, .string p] w fun e w' => e = .returned (.bool (Lib.hasPrefix s.data.toList p.data.toList)) ∧ w' = w := Any.strings_HasPrefix Tryz.lays99 s p w
def Tryz.lays283_ren : Go.Shelf.Ren := ⟨fun | 283 => 226 | n => n, fun | 3 => 3 | 9 => 9 | 4 => 4 | n => n, fun | n => n⟩
theorem Tryz.lays283 : Go.Proofs.Lays.n283 Tryz.prog Tryz.lays283_ren := {
  mixed := by kernel_rfl
  f283 := Tryz.func226.trans (congrArg some (by kernel_rfl))
  t3 := Tryz.underlying3
  a3 := Tryz.isAgg3
  z3 := Tryz.sizeOf3
  v3 := Tryz.zeroValue3
  t4 := Tryz.underlying4
  a4 := Tryz.isAgg4
  z4 := Tryz.sizeOf4
  v4 := Tryz.zeroValue4
  t9 := Tryz.underlying9
  a9 := Tryz.isAgg9
  z9 := Tryz.sizeOf9
  v9 := Tryz.zeroValue9 }
open Go.Lib in
theorem Tryz.internal_strconv_small (i : Nat) (h : i < 100) (w : World) :
    Calls Tryz.prog 226 #[.int .i64 i] w fun e w' => e = .returned (.string ⟨(Lib.decDigits i).toArray⟩) ∧ w' = w := Any.internal_strconv_small Tryz.lays283 i h w
def Tryz.laysM284_ren : Go.Shelf.Ren := ⟨fun | 284 => 227 | 129 => 208 | 317 => 232 | 318 => 233 | n => n, fun | 53 => 117 | 3 => 3 | 212 => 267 | 0 => 0 | 4 => 4 | 46 => 115 | 5 => 5 | 9 => 9 | n => n, fun | 17 => 6 | n => n⟩
theorem Tryz.laysM284 : Go.Proofs.LaysM.n284 Tryz.prog Tryz.laysM284_ren := {
  mixed := by kernel_rfl
  f129 := Tryz.func208.trans (congrArg some (by kernel_rfl))
  f284 := Tryz.func227.trans (congrArg some (by kernel_rfl))
  f317 := Tryz.func232.trans (congrArg some (by kernel_rfl))
  f318 := Tryz.func233.trans (congrArg some (by kernel_rfl))
  t0 := Tryz.underlying0
  a0 := Tryz.isAgg0
  z0 := Tryz.sizeOf0
  v0 := Tryz.zeroValue0
  t3 := Tryz.underlying3
  a3 := Tryz.isAgg3
  z3 := Tryz.sizeOf3
  v3 := Tryz.zeroValue3
  t4 := Tryz.underlying4
  a4 := Tryz.isAgg4
  z4 := Tryz.sizeOf4
  v4 := Tryz.zeroValue4
  t5 := Tryz.underlying5
  a5 := Tryz.isAgg5
  z5 := Tryz.sizeOf5
  v5 := Tryz.zeroValue5
  t9 := Tryz.underlying9
  a9 := Tryz.isAgg9
  z9 := Tryz.sizeOf9
  v9 := Tryz.zeroValue9
  t46 := Tryz.underlying115
  a46 := Tryz.isAgg115
  z46 := Tryz.sizeOf115
  v46 := Tryz.zeroValue115
  t53 := Tryz.underlying117
  a53 := Tryz.isAgg117
  z53 := Tryz.sizeOf117
  v53 := Tryz.zeroValue117
  t212 := Tryz.underlying267
  a212 := Tryz.isAgg267
  z212 := Tryz.sizeOf267
  v212 := Tryz.zeroValue267
  g17 := by kernel_rfl
  i0 := by kernel_rfl
  i3 := by kernel_rfl
  i4 := by kernel_rfl
  i5 := by kernel_rfl
  i9 := by kernel_rfl
  i46 := by kernel_rfl
  i53 := by kernel_rfl
  i212 := by kernel_rfl
  m17 := by kernel_rfl }
open Go.Lib in
theorem Tryz.internal_strconv_numDigits (u : Nat) (h1 : 1 ≤ u) (h2 : u < 18446744073709551616) (w : World) (htab : Lib.TabIs Tryz.prog w "internal/strconv.uint64pow10" .u64 Lib.pow10Tab) :
    Calls Tryz.prog 227 #[.int .u64 u] w fun e w' => e = .returned (.int .i64 (Lib.nDigits u)) ∧ w' = w := Any.internal_strconv_numDigits Tryz.laysM284 u h1 h2 w htab
def Tryz.lays285_ren : Go.Shelf.Ren := ⟨fun | 285 => 228 | n => n, fun | 37 => 148 | 53 => 117 | 3 => 3 | 4 => 4 | 51 => 256 | 9 => 9 | 5 => 5 | 0 => 0 | n => n, fun | n => n⟩
theorem Tryz.lays285 : Go.Proofs.Lays.n285 Tryz.prog Tryz.lays285_ren := {
  mixed := by kernel_rfl
  f285 := Tryz.func228.trans (congrArg some (by kernel_rfl))
  t0 := Tryz.underlying0
  a0 := Tryz.isAgg0
  z0 := Tryz.sizeOf0
  v0 := Tryz.zeroValue0
  t3 := Tryz.underlying3
  a3 := Tryz.isAgg3
  z3 := Tryz.sizeOf3
  v3 := Tryz.zeroValue3
  t4 := Tryz.underlying4
  a4 := Tryz.isAgg4
  z4 := Tryz.sizeOf4
  v4 := Tryz.zeroValue4
  t5 := Tryz.underlying5
  a5 := Tryz.isAgg5
  z5 := Tryz.sizeOf5
  v5 := Tryz.zeroValue5
  t9 := Tryz.underlying9
  a9 := Tryz.isAgg9
  z9 := Tryz.sizeOf9
  v9 := Tryz.zeroValue9
  t37 := Tryz.underlying148
  a37 := Tryz.isAgg148
  z37 := Tryz.sizeOf148
  v37 := Tryz.zeroValue148
  t51 := Tryz.underlying256
  a51 := Tryz.isAgg256
  z51 := Tryz.sizeOf256
  v51 := Tryz.zeroValue256
  t53 := Tryz.underlying117
  a53 := Tryz.isAgg117
  z53 := Tryz.sizeOf117
  v53 := Tryz.zeroValue117 }
open Go.RowKit Go.Sort Go.Lib in
theorem Tryz.internal_strconv_formatBase10 (blk off cap : Nat) (u : Nat) (d : Array UInt8) (w : World) (hH : Holds (fun (b : UInt8) => Value.int .u8 (b.toNat : Int)) w blk off d) (hu : u < 10 ^ d.size) (hu64 : u < 18446744073709551616) (hsz : d.size < 4611686018427387904) :
    Calls Tryz.prog 228 #[.slice (some ⟨blk, off, none⟩) d.size cap, .int .u64 u] w fun e w' =>
      e = .returned (.tuple #[]) ∧ ∃ (n v' : Nat) (dk : Array UInt8), w' = (putRow (fun (b : UInt8) => Value.int .u8 (b.toNat : Int)) w blk off dk).drewN n ∧ FmtInv d.size u 0 v' dk := Any.internal_strconv_formatBase10 Tryz.lays285 blk off cap u d w hH hu hu64 hsz
def Tryz.lays219_ren : Go.Shelf.Ren := ⟨fun | 219 => 218 | 217 => 222 | 225 => 223 | 224 => 224 | 267 => 225 | 266 => 230 | 314 => 231 | n => n, fun | 9 => 9 | 3 => 3 | 4 => 4 | 5 => 5 | 46 => 115 | 146 => 257 | 51 => 256 | n => n, fun | 1 => 5 | n => n⟩
theorem Tryz.lays219 : Go.Proofs.Lays.n219 Tryz.prog Tryz.lays219_ren := {
  mixed := by kernel_rfl
  f217 := Tryz.func222.trans (congrArg some (by kernel_rfl))
  f219 := Tryz.func218.trans (congrArg some (by kernel_rfl))
  f224 := Tryz.func224.trans (congrArg some (by kernel_rfl))
  f225 := Tryz.func223.trans (congrArg some (by kernel_rfl))
  f266 := Tryz.func230.trans (congrArg some (by kernel_rfl))
  f267 := Tryz.func225.trans (congrArg some (by kernel_rfl))
  f314 := Tryz.func231.trans (congrArg some (by kernel_rfl))
  t3 := Tryz.underlying3
  a3 := Tryz.isAgg3
  z3 := Tryz.sizeOf3
  v3 := Tryz.zeroValue3
  t4 := Tryz.underlying4
  a4 := Tryz.isAgg4
  z4 := Tryz.sizeOf4
  v4 := Tryz.zeroValue4
  t5 := Tryz.underlying5
  a5 := Tryz.isAgg5
  z5 := Tryz.sizeOf5
  v5 := Tryz.zeroValue5
  t9 := Tryz.underlying9
  a9 := Tryz.isAgg9
  z9 := Tryz.sizeOf9
  v9 := Tryz.zeroValue9
  t46 := Tryz.underlying115
  a46 := Tryz.isAgg115
  z46 := Tryz.sizeOf115
  v46 := Tryz.zeroValue115
  t51 := Tryz.underlying256
  a51 := Tryz.isAgg256
  z51 := Tryz.sizeOf256
  v51 := Tryz.zeroValue256
  t146 := Tryz.underlying257
  a146 := Tryz.isAgg257
  z146 := Tryz.sizeOf257
  v146 := Tryz.zeroValue257
  g1 := by kernel_rfl }
open Go.RowKit Go.Lib in
theorem Tryz.stringslite_Index_one (s : ByteArray) (c : UInt8) (w : World) :
    Calls Tryz.prog 218 #[.string s, .string ⟨#[c]⟩] w fun e w' => e = .returned (.int .i64 (Lib.indexByte s.data.toList c)) ∧ w' = w := Any.stringslite_Index_one Tryz.lays219 s c w
def Tryz.lays107_ren : Go.Shelf.Ren := ⟨fun | 107 => 171 | 108 => 192 | n => n, fun | 28 => 60 | 3 => 3 | 4 => 4 | 0 => 0 | n => n, fun | n => n⟩
theorem Tryz.lays107 : Go.Proofs.Lays.n107 Tryz.prog Tryz.lays107_ren := {
  mixed := by kernel_rfl
  f107 := Tryz.func171.trans (congrArg some (by kernel_rfl))
  f108 := Tryz.func192.trans (congrArg some (by kernel_rfl))
  t0 := Tryz.underlying0
  a0 := Tryz.isAgg0
  z0 := Tryz.sizeOf0
  v0 := Tryz.zeroValue0
  t3 := Tryz.underlying3
  a3 := Tryz.isAgg3
  z3 := Tryz.sizeOf3
  v3 := Tryz.zeroValue3
  t4 := Tryz.underlying4
  a4 := Tryz.isAgg4
  z4 := Tryz.sizeOf4
  v4 := Tryz.zeroValue4
  t28 := Tryz.underlying60
  a28 := Tryz.isAgg60
  z28 := Tryz.sizeOf60
  v28 := Tryz.zeroValue60 }
open Go.Lib in
theorem Tryz.slices_Contains_int (b off n c : Nat) (zs : List Int) (x : Int) (w : World) (hz : n ≤ zs.length) (hbig : n ≤ 9223372036854775807) (hc : ∀ j, j < zs.length → w.cell? ⟨b, off + j, none⟩ = some (.int .i64 (zs.getD j 0))) :
    Calls Tryz.prog 171 #[.slice (some ⟨b, off, none⟩) n c, .int .i64 x] w fun e w' => e = .returned (.bool ((zs.take n).contains x)) ∧ w' = w := Any.slices_Contains_int Tryz.lays107 b off n c zs x w hz hbig hc
def Tryz.lays169_ren : Go.Shelf.Ren := ⟨fun | 169 => 115 | n => n, fun | 70 => 147 | 9 => 9 | 0 => 0 | 72 => 150 | 37 => 148 | 127 => 217 | 3 => 3 | 5 => 5 | n => n, fun | n => n⟩
theorem Tryz.lays169 : Go.Proofs.Lays.n169 Tryz.prog Tryz.lays169_ren := {
  mixed := by kernel_rfl
  f169 := Tryz.func115.trans (congrArg some (by kernel_rfl))
  t0 := Tryz.underlying0
  a0 := Tryz.isAgg0
  z0 := Tryz.sizeOf0
  v0 := Tryz.zeroValue0
  t3 := Tryz.underlying3
  a3 := Tryz.isAgg3
  z3 := Tryz.sizeOf3
  v3 := Tryz.zeroValue3
  t9 := Tryz.underlying9
  a9 := Tryz.isAgg9
  z9 := Tryz.sizeOf9
  v9 := Tryz.zeroValue9
  t37 := Tryz.underlying148
  a37 := Tryz.isAgg148
  z37 := Tryz.sizeOf148
  v37 := Tryz.zeroValue148
  t70 := Tryz.underlying147
  a70 := Tryz.isAgg147
  z70 := Tryz.sizeOf147
  v70 := Tryz.zeroValue147
  t72 := Tryz.underlying150
  a72 := Tryz.isAgg150
  z72 := Tryz.sizeOf150
  v72 := Tryz.zeroValue150
  t127 := Tryz.underlying217
  a127 := Tryz.isAgg217
  z127 := Tryz.sizeOf217
  v127 := Tryz.zeroValue217 }
theorem Tryz.Builder_Extra_169 : Builder.Extra Tryz.prog Tryz.lays169_ren := {
  sizeBuilder := by kernel_rfl
  liesBuilder := by kernel_rfl
  t5 := Tryz.underlying5
  a5 := Tryz.isAgg5
  z5 := Tryz.sizeOf5
  v5 := Tryz.zeroValue5
  infoByte := by kernel_rfl
  cellsByte := by kernel_rfl
  sizeByte := by kernel_rfl
  neB5 := by decide }
open Go.RowKit in
theorem Tryz.Builder_String_any_k (B b : Nat) (l : List UInt8) (w : World) (h : Lib.IsBuilderF 150 5 B b (Lib.byteCells l) w) (hBw : B ≤ w.heap.size) :
    Calls Tryz.prog 115 #[.pointer (some ⟨b, 0, none⟩)] w fun e w' => e = .returned (.string ⟨l.toArray⟩) ∧ (Lib.IsBuilderF 150 5 B b (Lib.byteCells l) w' ∧ Below B w w' ∧ Lib.OthersKept 5 (some b) w w') := Any.Builder_String_any_k Tryz.lays169 Tryz.Builder_Extra_169 B b l w h hBw
end Go.Proofs
namespace Go.Proofs.YtngkolcpbgibcaaGreatDoor
open Go.RowKit Go.Lib
abbrev TB : TypeId := 150
abbrev TE : TypeId := 5
set_option maxHeartbeats 1000000 in
set_option maxRecDepth 100000 in
theorem copyCheck_used (b : Nat) (w : World) (h0 : w.cell? ⟨b, 0, none⟩ = some (.pointer (some ⟨b, 0, none⟩))) :
    Calls Tryz.prog 174 #[.pointer (some ⟨b, 0, none⟩)] w fun e w' => e = .returned (.tuple #[]) ∧ w' = w := by
  obtain ⟨j, hj, _⟩ := Option.map_eq_some_iff.1 Tryz.Builder_Extra_169.toX72.sizeBuilder; go_enter Tryz.func174, Tryz.ntmps174; go_wp2; rw [Lib.run_neq_ptr_same w _ Tryz.underlying147 hj]; go_wp2
  go_end0
  exact ⟨rfl, rfl⟩
set_option maxHeartbeats 1000000 in
set_option maxRecDepth 100000 in
theorem copyCheck_fresh (b : Nat) (w : World) (h0 : w.cell? ⟨b, 0, none⟩ = some (.pointer none)) (hsh : w.shape? b = some (TB, 2)) (hfz : w.frozen? ⟨b, 0, none⟩ = false) :
    Calls Tryz.prog 174 #[.pointer (some ⟨b, 0, none⟩)] w fun e w' => e = .returned (.tuple #[]) ∧ w' = w.setCell ⟨b, 0, none⟩ (.pointer (some ⟨b, 0, none⟩)) := by
  obtain ⟨j, hj, hjs⟩ := Option.map_eq_some_iff.1 Tryz.Builder_Extra_169.toX72.sizeBuilder; go_enter Tryz.func174, Tryz.ntmps174; go_wp2; rw [Lib.run_to_unsafe w ⟨b, 0, none⟩ Tryz.underlying147 Tryz.underlying245 hj (by rw [hjs]; decide) hsh (Nat.zero_lt_succ 1)]; simp only [Result.andThen]; rw [Oper.upon_value]; go_wp2; rw [run_callFunc_extern Tryz.func201 (by kernel_rfl) (by kernel_rfl) (by kernel_rfl) (e := Extern.AbiNoEscape.same) (by kernel_rfl)]; rw [Lib.run_noEscape]; simp only [Result.andThen]; rw [Oper.upon_value]; go_wp2; rw [Lib.run_from_unsafe w ⟨b, 0, none⟩ Tryz.underlying245 Tryz.underlying147 hj hsh Tryz.Builder_Extra_169.toX72.liesBuilder]; simp only [Result.andThen]; rw [Oper.upon_value]; go_wp2
  go_end0
  exact ⟨rfl, rfl⟩
theorem copyCheck_any (B b : Nat) (bs : List Value) (w : World) (h : Lib.IsBuilderF TB TE B b bs w) :
    Calls Tryz.prog 174 #[.pointer (some ⟨b, 0, none⟩)] w fun e w' => e = .returned (.tuple #[]) ∧ (Lib.BuilderAtF TB TE B b (.pointer (some ⟨b, 0, none⟩)) bs w' ∧ Below B w w' ∧ Lib.OthersKept TE (some b) w w') := by
  rcases h with h | h
  · refine (copyCheck_fresh b w h.cell0 h.shape h.frozen0).mono ?_; rintro e w' ⟨rfl, rfl⟩; exact ⟨rfl, h.used _, (Below.refl B w).setCell (p := ⟨b, 0, none⟩) h.1 _, (Lib.OthersKept.refl _ _ w).setCell ⟨b, 0, none⟩ rfl _⟩
  · refine (copyCheck_used b w h.cell0).mono ?_; rintro e w' ⟨rfl, rfl⟩; exact ⟨rfl, h, Below.refl B _, Lib.OthersKept.refl _ _ _⟩
end Go.Proofs.YtngkolcpbgibcaaGreatDoor
