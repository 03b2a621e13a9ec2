/- Texts, plainly: runes of bytes, units of runes, units as a text. No condition; no model. -/
import Derived.Lib.ValidLaws
set_option linter.unusedVariables false
set_option linter.unusedSimpArgs false
namespace Go.Proofs.YtkjiokepihmpfaaDoor
open Go.Lib

/-- The runes of some bytes, as the decoder has them. -/
def rnsGo : Nat → List UInt8 → List Int
  | 0, _ => []
  | n + 1, l => if l = [] then [] else ((decodeL l).1 : Int) :: rnsGo n (l.drop (decodeL l).2)
def rns (l : List UInt8) : List Int := rnsGo l.length l

theorem rnsGo_nil : ∀ n, rnsGo n [] = []
  | 0 => rfl
  | _ + 1 => by simp [rnsGo]
theorem rnsGo_fuel : ∀ (n m : Nat) (l : List UInt8), l.length ≤ n → l.length ≤ m → rnsGo n l = rnsGo m l
  | 0, m, l, hn, _ => by
    have : l = [] := List.eq_nil_of_length_eq_zero (by omega)
    subst this
    rw [rnsGo_nil, rnsGo_nil]
  | n + 1, 0, l, _, hm => by
    have : l = [] := List.eq_nil_of_length_eq_zero (by omega)
    subst this
    rw [rnsGo_nil, rnsGo_nil]
  | n + 1, m + 1, l, hn, hm => by
    by_cases hne : l = []
    · subst hne
      rw [rnsGo_nil, rnsGo_nil]
    · have hw := decodeL_width l
      have hl : 0 < l.length := List.length_pos_iff.2 hne
      simp only [rnsGo, if_neg hne]
      rw [rnsGo_fuel n m _ (by rw [List.length_drop]; omega) (by rw [List.length_drop]; omega)]
theorem rns_nil : rns [] = [] := rfl
theorem rns_step (l : List UInt8) (hne : l ≠ []) : rns l = ((decodeL l).1 : Int) :: rns (l.drop (decodeL l).2) := by
  have hw := decodeL_width l
  have hl : 0 < l.length := List.length_pos_iff.2 hne
  unfold rns
  obtain ⟨n, hn⟩ : ∃ n, l.length = n + 1 := ⟨l.length - 1, by omega⟩
  rw [hn]
  simp only [rnsGo, if_neg hne]
  rw [rnsGo_fuel n _ _ (by rw [List.length_drop]; omega) (Nat.le_refl _)]

/-- What the decoder tells of a beginning that is a rune it tells of the whole. -/
theorem decodeL_app (a b : List UInt8) (hne : a ≠ []) (hv : ¬ ((decodeL a).1 = 65533 ∧ (decodeL a).2 = 1)) : decodeL (a ++ b) = decodeL a := by
  have hl : 0 < a.length := List.length_pos_iff.2 hne
  have hg : ∀ i, i < a.length → (a ++ b).getD i 0 = a.getD i 0 := fun i hi => by
    simp [List.getD_eq_getElem?_getD, List.getElem?_append_left hi]
  have hm : (a ++ b).length = a.length + b.length := List.length_append
  rw [decodeL_N] at hv ⊢
  rw [decodeL_N]
  rcases decodeN_shape a.length (a.getD 0 0).toNat (a.getD 1 0).toNat (a.getD 2 0).toNat (a.getD 3 0).toNat with ⟨c, e⟩ | ⟨c1, c2, c3, cv, e⟩ | ⟨c1, c2, c3, c4, cv, cs, e⟩ | ⟨c1, c2, c3, c4, c5, cv, cw, e⟩ | e
  · rw [e, hg 0 hl]
    unfold decodeN
    rw [if_pos c]
  · rw [e, hg 0 hl, hg 1 c2]
    unfold decodeN
    rw [if_neg (by omega), if_pos ⟨c1, by omega, c3⟩, if_pos cv]
  · rw [e, hg 0 hl, hg 1 (by omega), hg 2 c2]
    unfold decodeN
    rw [if_neg (by omega), if_neg (by omega), if_pos ⟨c1, ⟨by omega, c3⟩, by omega, c4⟩, if_pos ⟨by omega, by omega⟩]
  · rw [e, hg 0 hl, hg 1 (by omega), hg 2 (by omega), hg 3 c2]
    unfold decodeN
    rw [if_neg (by omega), if_neg (by omega), if_neg (by omega), if_pos ⟨c1, ⟨by omega, c3⟩, ⟨by omega, c4⟩, by omega, c5⟩, if_pos ⟨by omega, by omega⟩]
  · rw [e] at hv
    exact absurd ⟨rfl, rfl⟩ hv

theorem valid_head {l : List UInt8} (hne : l ≠ []) (h : validD l = true) : (¬ ((decodeL l).1 = 65533 ∧ (decodeL l).2 = 1)) ∧ validD (l.drop (decodeL l).2) = true := by
  rw [validD_step l hne] at h
  by_cases hb : (decodeL l).1 = 65533 ∧ (decodeL l).2 = 1
  · rw [if_pos hb] at h; cases h
  · rw [if_neg hb] at h; exact ⟨hb, h⟩

/-- Two texts, one behind the other. -/
theorem text_app : ∀ (n : Nat) (a b : List UInt8), a.length ≤ n → validD a = true → validD (a ++ b) = validD b ∧ rns (a ++ b) = rns a ++ rns b
  | 0, a, b, hn, _ => by
    have : a = [] := List.eq_nil_of_length_eq_zero (by omega)
    subst this
    simp [rns_nil]
  | n + 1, a, b, hn, hv => by
    by_cases hne : a = []
    · subst hne; simp [rns_nil]
    · obtain ⟨h1, h2⟩ := valid_head hne hv
      have hd := decodeL_app a b hne h1
      have hw := decodeL_width a
      have hle := decodeL_le a hne
      have hdrop : (a ++ b).drop (decodeL a).2 = a.drop (decodeL a).2 ++ b := by
        rw [List.drop_append_of_le_length hle]
      have hne2 : a ++ b ≠ [] := by simp [hne]
      obtain ⟨i1, i2⟩ := text_app n (a.drop (decodeL a).2) b (by rw [List.length_drop]; omega) h2
      refine ⟨?_, ?_⟩
      · rw [validD_step _ hne2, hd, if_neg h1, hdrop, i1]
      · rw [rns_step _ hne2, hd, hdrop, i2, rns_step a hne, List.cons_append]
theorem valid_app {a : List UInt8} (b : List UInt8) (h : validD a = true) : validD (a ++ b) = validD b := (text_app _ a b (Nat.le_refl _) h).1
theorem rns_app {a : List UInt8} (b : List UInt8) (h : validD a = true) : rns (a ++ b) = rns a ++ rns b := (text_app _ a b (Nat.le_refl _) h).2

/-- A rune that may be. -/
def okR (r : Int) : Prop := 0 ≤ r ∧ r ≤ 1114111 ∧ ¬ (55296 ≤ r ∧ r < 57344)
theorem decode_ok (l : List UInt8) (hv : ¬ ((decodeL l).1 = 65533 ∧ (decodeL l).2 = 1)) : okR ((decodeL l).1 : Int) := by
  have hr := decodeL_rune l
  have k0 := (l.getD 0 0).toNat_lt
  have k1 := (l.getD 1 0).toNat_lt
  refine ⟨by omega, by omega, ?_⟩
  rw [decodeL_N] at hv hr ⊢
  rcases decodeN_shape l.length (l.getD 0 0).toNat (l.getD 1 0).toNat (l.getD 2 0).toNat (l.getD 3 0).toNat with ⟨c, e⟩ | ⟨c1, c2, c3, cv, e⟩ | ⟨c1, c2, c3, c4, cv, cs, e⟩ | ⟨c1, c2, c3, c4, c5, cv, cw, e⟩ | e
  · rw [e]; dsimp only; omega
  · rw [e]; dsimp only; omega
  · rw [e]; dsimp only; omega
  · rw [e]; dsimp only; omega
  · rw [e] at hv
    exact absurd ⟨rfl, rfl⟩ hv
theorem rns_ok : ∀ (n : Nat) (l : List UInt8), l.length ≤ n → validD l = true → ∀ r ∈ rns l, okR r
  | 0, l, hn, _ => by
    have : l = [] := List.eq_nil_of_length_eq_zero (by omega)
    subst this
    simp [rns_nil]
  | n + 1, l, hn, hv => by
    by_cases hne : l = []
    · subst hne; simp [rns_nil]
    · obtain ⟨h1, h2⟩ := valid_head hne hv
      have hw := decodeL_width l
      have hl : 0 < l.length := List.length_pos_iff.2 hne
      intro r hr
      rw [rns_step l hne] at hr
      rcases List.mem_cons.1 hr with rfl | hr
      · exact decode_ok l h1
      · exact rns_ok n _ (by rw [List.length_drop]; omega) h2 r hr
theorem runes_ok {l : List UInt8} (hv : validD l = true) : ∀ r ∈ rns l, okR r := rns_ok _ l (Nat.le_refl _) hv

theorem enc_rns : ∀ (n : Nat) (l : List UInt8), l.length ≤ n → validD l = true → (rns l).flatMap encodeRune = l
  | 0, l, hn, _ => by
    have : l = [] := List.eq_nil_of_length_eq_zero (by omega)
    subst this
    simp [rns_nil]
  | n + 1, l, hn, hv => by
    by_cases hne : l = []
    · subst hne; simp [rns_nil]
    · obtain ⟨h1, h2⟩ := valid_head hne hv
      have hw := decodeL_width l
      have hl : 0 < l.length := List.length_pos_iff.2 hne
      rw [rns_step l hne, List.flatMap_cons, encode_decode l hne h1, enc_rns n _ (by rw [List.length_drop]; omega) h2, List.take_append_drop]
theorem enc_back {l : List UInt8} (hv : validD l = true) : (rns l).flatMap encodeRune = l := enc_rns _ l (Nat.le_refl _) hv

/-- A rune's units. -/
def uni (r : Int) : List Int := if r < 65536 then [r] else [55296 + (r - 65536) / 1024, 56320 + r % 1024]
def unis (l : List UInt8) : List Int := (rns l).flatMap uni
/-- How many units. -/
def unN (l : List UInt8) : Nat := (unis l).length
/-- Each rune is below 256. -/
def narB (l : List UInt8) : Bool := (rns l).all fun r => decide (r < 256)
/-- What Units tells. -/
def uE (l : List UInt8) : Int := if validD l = false then 2 else if 1000 < unN l then 4 else 0
def uV (l : List UInt8) : Int := if uE l = 0 then unN l else 0
def szV (l : List UInt8) : Int := if uE l = 0 then (if narB l = true then 3 + (unN l : Int) else 3 + 2 * (unN l : Int)) else 0

theorem unis_app {a : List UInt8} (b : List UInt8) (h : validD a = true) : unis (a ++ b) = unis a ++ unis b := by
  unfold unis; rw [rns_app b h, List.flatMap_append]
theorem unN_app {a : List UInt8} (b : List UInt8) (h : validD a = true) : unN (a ++ b) = unN a + unN b := by
  unfold unN; rw [unis_app b h, List.length_append]
theorem narB_app {a : List UInt8} (b : List UInt8) (h : validD a = true) : narB (a ++ b) = (narB a && narB b) := by
  unfold narB; rw [rns_app b h, List.all_append]

theorem uE_valid {l : List UInt8} (h : uE l = 0) : validD l = true ∧ unN l ≤ 1000 := by
  unfold uE at h
  by_cases hv : validD l = false
  · rw [if_pos hv] at h; cases h
  · rw [if_neg hv] at h
    by_cases h1 : 1000 < unN l
    · rw [if_pos h1] at h; cases h
    · exact ⟨by simpa using hv, by omega⟩
theorem uE_cases (l : List UInt8) : uE l = 0 ∨ uE l = 2 ∨ uE l = 4 := by
  unfold uE
  split
  · exact .inr (.inl rfl)
  · split
    · exact .inr (.inr rfl)
    · exact .inl rfl
theorem uE_app {a b : List UInt8} (ha : uE a = 0) (hb : uE b = 0) : uE (a ++ b) = if 1000 < unN a + unN b then 4 else 0 := by
  have h1 := (uE_valid ha).1
  have h2 := (uE_valid hb).1
  unfold uE
  rw [valid_app b h1, h2, if_neg (by decide), unN_app b h1]

theorem drop_ne (s : ByteArray) (pos : Nat) (h : pos < s.size) : s.data.toList.drop pos ≠ [] := by
  have hlen : s.data.toList.length = s.size := by simp
  intro hh
  have := congrArg List.length hh
  rw [List.length_drop, List.length_nil] at this
  omega
theorem decode_drop (s : ByteArray) (pos : Nat) : decodeL (s.data.toList.drop pos) = Utf8.decode s pos := by
  rw [decodeL_N, decode_N]
  simp [List.length_drop]
theorem decode_le (s : ByteArray) (pos : Nat) (h : pos < s.size) : pos + (Utf8.decode s pos).2 ≤ s.size := by
  have := decodeL_le _ (drop_ne s pos h)
  rw [decode_drop, List.length_drop] at this
  simp at this
  omega
/-- The runes from a place on. -/
theorem rns_at (s : ByteArray) (pos : Nat) (h : pos < s.size) : rns (s.data.toList.drop pos) = ((Utf8.decode s pos).1 : Int) :: rns (s.data.toList.drop (pos + (Utf8.decode s pos).2)) := by
  have hne := drop_ne s pos h
  have hd := decode_drop s pos
  rw [rns_step _ hne, hd, List.drop_drop]
theorem rns_end (s : ByteArray) (pos : Nat) (h : ¬ pos < s.size) : rns (s.data.toList.drop pos) = [] := by
  have hlen : s.data.toList.length = s.size := by simp
  rw [List.drop_eq_nil_of_le (by omega)]
  rfl
theorem rns_len (s : ByteArray) : ∀ (n : Nat) (l : List UInt8), l.length ≤ n → (rns l).length ≤ l.length
  | 0, l, hn => by
    have : l = [] := List.eq_nil_of_length_eq_zero (by omega)
    subst this
    simp [rns_nil]
  | n + 1, l, hn => by
    by_cases hne : l = []
    · subst hne; simp [rns_nil]
    · have hw := decodeL_width l
      have hl : 0 < l.length := List.length_pos_iff.2 hne
      have := rns_len s n (l.drop (decodeL l).2) (by rw [List.length_drop]; omega)
      rw [rns_step l hne, List.length_cons]
      rw [List.length_drop] at this
      omega
end Go.Proofs.YtkjiokepihmpfaaDoor
