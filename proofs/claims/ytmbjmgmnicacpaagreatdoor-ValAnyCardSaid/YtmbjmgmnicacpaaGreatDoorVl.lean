/- Texts, plainly: runes of bytes, units of runes, units as a text. No condition; no model. -/
/- Texts in order: by runes and by bytes they stand alike, as long as they are valid. No program; no condition but that. -/
/- Values, plainly: their five forms, their order. No program; no condition but the forms' own. -/
import Derived.Lib.ValidLaws
import GoSem.Op.String
import Derived.Test.YtmbjmgmnicacpaaGreatDoorDigOps
import Derived.Test.YtmbjmgmnicacpaaGreatDoorWide
namespace Go.Proofs.YtmbjmgmnicacpaaGreatDoor
open Go.Lib

/-- The runes of some bytes, as the decoder has them. -/
def rnsGo : Nat → List UInt8 → List Int
  | 0, _ => []
  | n + 1, l => if l = [] then [] else ((decodeL l).1 : Int) :: rnsGo n (l.drop (decodeL l).2)
def rns (l : List UInt8) : List Int := rnsGo l.length l

theorem rnsGo_nil : ∀ n, rnsGo n [] = []
  | 0 => rfl
  | _ + 1 => by simp [rnsGo]
theorem rnsGo_fuel : ∀ (n m : Nat) (l : List UInt8), l.length ≤ n → l.length ≤ m → rnsGo n l = rnsGo m l
  | 0, m, l, hn, _ => by
    have : l = [] := List.eq_nil_of_length_eq_zero (by omega)
    subst this
    rw [rnsGo_nil, rnsGo_nil]
  | n + 1, 0, l, _, hm => by
    have : l = [] := List.eq_nil_of_length_eq_zero (by omega)
    subst this
    rw [rnsGo_nil, rnsGo_nil]
  | n + 1, m + 1, l, hn, hm => by
    by_cases hne : l = []
    · subst hne
      rw [rnsGo_nil, rnsGo_nil]
    · have hw := decodeL_width l
      have hl : 0 < l.length := List.length_pos_iff.2 hne
      simp only [rnsGo, if_neg hne]
      rw [rnsGo_fuel n m _ (by rw [List.length_drop]; omega) (by rw [List.length_drop]; omega)]
theorem rns_nil : rns [] = [] := rfl
theorem rns_step (l : List UInt8) (hne : l ≠ []) : rns l = ((decodeL l).1 : Int) :: rns (l.drop (decodeL l).2) := by
  have hw := decodeL_width l
  have hl : 0 < l.length := List.length_pos_iff.2 hne
  unfold rns
  obtain ⟨n, hn⟩ : ∃ n, l.length = n + 1 := ⟨l.length - 1, by omega⟩
  rw [hn]
  simp only [rnsGo, if_neg hne]
  rw [rnsGo_fuel n _ _ (by rw [List.length_drop]; omega) (Nat.le_refl _)]

/-- What the decoder tells of a beginning that is a rune it tells of the whole. -/
theorem decodeL_app (a b : List UInt8) (hne : a ≠ []) (hv : ¬ ((decodeL a).1 = 65533 ∧ (decodeL a).2 = 1)) : decodeL (a ++ b) = decodeL a := by
  have hl : 0 < a.length := List.length_pos_iff.2 hne
  have hg : ∀ i, i < a.length → (a ++ b).getD i 0 = a.getD i 0 := fun i hi => by
    simp [List.getD_eq_getElem?_getD, List.getElem?_append_left hi]
  have hm : (a ++ b).length = a.length + b.length := List.length_append
  rw [decodeL_N] at hv ⊢
  rw [decodeL_N]
  rcases decodeN_shape a.length (a.getD 0 0).toNat (a.getD 1 0).toNat (a.getD 2 0).toNat (a.getD 3 0).toNat with ⟨c, e⟩ | ⟨c1, c2, c3, cv, e⟩ | ⟨c1, c2, c3, c4, cv, cs, e⟩ | ⟨c1, c2, c3, c4, c5, cv, cw, e⟩ | e
  · rw [e, hg 0 hl]
    unfold decodeN
    rw [if_pos c]
  · rw [e, hg 0 hl, hg 1 c2]
    unfold decodeN
    rw [if_neg (by omega), if_pos ⟨c1, by omega, c3⟩, if_pos cv]
  · rw [e, hg 0 hl, hg 1 (by omega), hg 2 c2]
    unfold decodeN
    rw [if_neg (by omega), if_neg (by omega), if_pos ⟨c1, ⟨by omega, c3⟩, by omega, c4⟩, if_pos ⟨by omega, by omega⟩]
  · rw [e, hg 0 hl, hg 1 (by omega), hg 2 (by omega), hg 3 c2]
    unfold decodeN
    rw [if_neg (by omega), if_neg (by omega), if_neg (by omega), if_pos ⟨c1, ⟨by omega, c3⟩, ⟨by omega, c4⟩, by omega, c5⟩, if_pos ⟨by omega, by omega⟩]
  · rw [e] at hv
    exact absurd ⟨rfl, rfl⟩ hv

theorem valid_head {l : List UInt8} (hne : l ≠ []) (h : validD l = true) : (¬ ((decodeL l).1 = 65533 ∧ (decodeL l).2 = 1)) ∧ validD (l.drop (decodeL l).2) = true := by
  rw [validD_step l hne] at h
  by_cases hb : (decodeL l).1 = 65533 ∧ (decodeL l).2 = 1
  · rw [if_pos hb] at h; cases h
  · rw [if_neg hb] at h; exact ⟨hb, h⟩

/-- Two texts, one behind the other. -/
theorem text_app : ∀ (n : Nat) (a b : List UInt8), a.length ≤ n → validD a = true → validD (a ++ b) = validD b ∧ rns (a ++ b) = rns a ++ rns b
  | 0, a, b, hn, _ => by
    have : a = [] := List.eq_nil_of_length_eq_zero (by omega)
    subst this
    simp [rns_nil]
  | n + 1, a, b, hn, hv => by
    by_cases hne : a = []
    · subst hne; simp [rns_nil]
    · obtain ⟨h1, h2⟩ := valid_head hne hv
      have hd := decodeL_app a b hne h1
      have hw := decodeL_width a
      have hle := decodeL_le a hne
      have hdrop : (a ++ b).drop (decodeL a).2 = a.drop (decodeL a).2 ++ b := by
        rw [List.drop_append_of_le_length hle]
      have hne2 : a ++ b ≠ [] := by simp [hne]
      obtain ⟨i1, i2⟩ := text_app n (a.drop (decodeL a).2) b (by rw [List.length_drop]; omega) h2
      refine ⟨?_, ?_⟩
      · rw [validD_step _ hne2, hd, if_neg h1, hdrop, i1]
      · rw [rns_step _ hne2, hd, hdrop, i2, rns_step a hne, List.cons_append]
theorem valid_app {a : List UInt8} (b : List UInt8) (h : validD a = true) : validD (a ++ b) = validD b := (text_app _ a b (Nat.le_refl _) h).1
theorem rns_app {a : List UInt8} (b : List UInt8) (h : validD a = true) : rns (a ++ b) = rns a ++ rns b := (text_app _ a b (Nat.le_refl _) h).2

/-- A rune that may be. -/
def okR (r : Int) : Prop := 0 ≤ r ∧ r ≤ 1114111 ∧ ¬ (55296 ≤ r ∧ r < 57344)
theorem decode_ok (l : List UInt8) (hv : ¬ ((decodeL l).1 = 65533 ∧ (decodeL l).2 = 1)) : okR ((decodeL l).1 : Int) := by
  have hr := decodeL_rune l
  have k0 := (l.getD 0 0).toNat_lt
  have k1 := (l.getD 1 0).toNat_lt
  refine ⟨by omega, by omega, ?_⟩
  rw [decodeL_N] at hv hr ⊢
  rcases decodeN_shape l.length (l.getD 0 0).toNat (l.getD 1 0).toNat (l.getD 2 0).toNat (l.getD 3 0).toNat with ⟨c, e⟩ | ⟨c1, c2, c3, cv, e⟩ | ⟨c1, c2, c3, c4, cv, cs, e⟩ | ⟨c1, c2, c3, c4, c5, cv, cw, e⟩ | e
  · rw [e]; dsimp only; omega
  · rw [e]; dsimp only; omega
  · rw [e]; dsimp only; omega
  · rw [e]; dsimp only; omega
  · rw [e] at hv
    exact absurd ⟨rfl, rfl⟩ hv
theorem rns_ok : ∀ (n : Nat) (l : List UInt8), l.length ≤ n → validD l = true → ∀ r ∈ rns l, okR r
  | 0, l, hn, _ => by
    have : l = [] := List.eq_nil_of_length_eq_zero (by omega)
    subst this
    simp [rns_nil]
  | n + 1, l, hn, hv => by
    by_cases hne : l = []
    · subst hne; simp [rns_nil]
    · obtain ⟨h1, h2⟩ := valid_head hne hv
      have hw := decodeL_width l
      have hl : 0 < l.length := List.length_pos_iff.2 hne
      intro r hr
      rw [rns_step l hne] at hr
      rcases List.mem_cons.1 hr with rfl | hr
      · exact decode_ok l h1
      · exact rns_ok n _ (by rw [List.length_drop]; omega) h2 r hr
theorem runes_ok {l : List UInt8} (hv : validD l = true) : ∀ r ∈ rns l, okR r := rns_ok _ l (Nat.le_refl _) hv

theorem enc_rns : ∀ (n : Nat) (l : List UInt8), l.length ≤ n → validD l = true → (rns l).flatMap encodeRune = l
  | 0, l, hn, _ => by
    have : l = [] := List.eq_nil_of_length_eq_zero (by omega)
    subst this
    simp [rns_nil]
  | n + 1, l, hn, hv => by
    by_cases hne : l = []
    · subst hne; simp [rns_nil]
    · obtain ⟨h1, h2⟩ := valid_head hne hv
      have hw := decodeL_width l
      have hl : 0 < l.length := List.length_pos_iff.2 hne
      rw [rns_step l hne, List.flatMap_cons, encode_decode l hne h1, enc_rns n _ (by rw [List.length_drop]; omega) h2, List.take_append_drop]
theorem enc_back {l : List UInt8} (hv : validD l = true) : (rns l).flatMap encodeRune = l := enc_rns _ l (Nat.le_refl _) hv

/-- A rune's units. -/
def uni (r : Int) : List Int := if r < 65536 then [r] else [55296 + (r - 65536) / 1024, 56320 + r % 1024]
def unis (l : List UInt8) : List Int := (rns l).flatMap uni
/-- How many units. -/
def unN (l : List UInt8) : Nat := (unis l).length
/-- Each rune is below 256. -/
def narB (l : List UInt8) : Bool := (rns l).all fun r => decide (r < 256)
/-- What Units tells. -/
def uE (l : List UInt8) : Int := if validD l = false then 2 else if 1000 < unN l then 4 else 0
def uV (l : List UInt8) : Int := if uE l = 0 then unN l else 0
def szV (l : List UInt8) : Int := if uE l = 0 then (if narB l = true then 3 + (unN l : Int) else 3 + 2 * (unN l : Int)) else 0

theorem unis_app {a : List UInt8} (b : List UInt8) (h : validD a = true) : unis (a ++ b) = unis a ++ unis b := by
  unfold unis; rw [rns_app b h, List.flatMap_append]
theorem unN_app {a : List UInt8} (b : List UInt8) (h : validD a = true) : unN (a ++ b) = unN a + unN b := by
  unfold unN; rw [unis_app b h, List.length_append]
theorem narB_app {a : List UInt8} (b : List UInt8) (h : validD a = true) : narB (a ++ b) = (narB a && narB b) := by
  unfold narB; rw [rns_app b h, List.all_append]

theorem uE_valid {l : List UInt8} (h : uE l = 0) : validD l = true ∧ unN l ≤ 1000 := by
  unfold uE at h
  by_cases hv : validD l = false
  · rw [if_pos hv] at h; cases h
  · rw [if_neg hv] at h
    by_cases h1 : 1000 < unN l
    · rw [if_pos h1] at h; cases h
    · exact ⟨by simpa using hv, by omega⟩
theorem uE_cases (l : List UInt8) : uE l = 0 ∨ uE l = 2 ∨ uE l = 4 := by
  unfold uE
  split
  · exact .inr (.inl rfl)
  · split
    · exact .inr (.inr rfl)
    · exact .inl rfl
theorem uE_app {a b : List UInt8} (ha : uE a = 0) (hb : uE b = 0) : uE (a ++ b) = if 1000 < unN a + unN b then 4 else 0 := by
  have h1 := (uE_valid ha).1
  have h2 := (uE_valid hb).1
  unfold uE
  rw [valid_app b h1, h2, if_neg (by decide), unN_app b h1]

theorem drop_ne (s : ByteArray) (pos : Nat) (h : pos < s.size) : s.data.toList.drop pos ≠ [] := by
  have hlen : s.data.toList.length = s.size := by simp
  intro hh
  have := congrArg List.length hh
  rw [List.length_drop, List.length_nil] at this
  omega
theorem decode_drop (s : ByteArray) (pos : Nat) : decodeL (s.data.toList.drop pos) = Utf8.decode s pos := by
  rw [decodeL_N, decode_N]
  simp [List.length_drop]
theorem decode_le (s : ByteArray) (pos : Nat) (h : pos < s.size) : pos + (Utf8.decode s pos).2 ≤ s.size := by
  have := decodeL_le _ (drop_ne s pos h)
  rw [decode_drop, List.length_drop] at this
  simp at this
  omega
/-- The runes from a place on. -/
theorem rns_at (s : ByteArray) (pos : Nat) (h : pos < s.size) : rns (s.data.toList.drop pos) = ((Utf8.decode s pos).1 : Int) :: rns (s.data.toList.drop (pos + (Utf8.decode s pos).2)) := by
  have hne := drop_ne s pos h
  have hd := decode_drop s pos
  rw [rns_step _ hne, hd, List.drop_drop]
theorem rns_end (s : ByteArray) (pos : Nat) (h : ¬ pos < s.size) : rns (s.data.toList.drop pos) = [] := by
  have hlen : s.data.toList.length = s.size := by simp
  rw [List.drop_eq_nil_of_le (by omega)]
  rfl
theorem rns_len (s : ByteArray) : ∀ (n : Nat) (l : List UInt8), l.length ≤ n → (rns l).length ≤ l.length
  | 0, l, hn => by
    have : l = [] := List.eq_nil_of_length_eq_zero (by omega)
    subst this
    simp [rns_nil]
  | n + 1, l, hn => by
    by_cases hne : l = []
    · subst hne; simp [rns_nil]
    · have hw := decodeL_width l
      have hl : 0 < l.length := List.length_pos_iff.2 hne
      have := rns_len s n (l.drop (decodeL l).2) (by rw [List.length_drop]; omega)
      rw [rns_step l hne, List.length_cons]
      rw [List.length_drop] at this
      omega
end Go.Proofs.YtmbjmgmnicacpaaGreatDoor
namespace Go.Proofs.YtmbjmgmnicacpaaGreatDoor
open Go.Lib Go.Op

/-- The order of two rows of numbers: -1, 0, 1. -/
def cmpR : List Int → List Int → Int
  | [], [] => 0
  | [], _ :: _ => -1
  | _ :: _, [] => 1
  | a :: r, b :: s => if a < b then -1 else if b < a then 1 else cmpR r s

theorem cmpR_self : ∀ a, cmpR a a = 0
  | [] => rfl
  | x :: a => by simp [cmpR, cmpR_self a]
theorem cmpR_neg : ∀ a b, cmpR b a = - cmpR a b
  | [], [] => rfl
  | [], _ :: _ => rfl
  | _ :: _, [] => rfl
  | x :: a, y :: b => by
    rw [cmpR, cmpR, cmpR_neg a b]
    by_cases h1 : x < y
    · rw [if_pos h1, if_neg (by omega), if_pos h1]; rfl
    · by_cases h2 : y < x
      · rw [if_pos h2, if_neg h1, if_pos h2]
      · rw [if_neg h2, if_neg h1, if_neg h1, if_neg h2]
theorem cmpR_three : ∀ a b, cmpR a b = -1 ∨ cmpR a b = 0 ∧ a = b ∨ cmpR a b = 1
  | [], [] => .inr (.inl ⟨rfl, rfl⟩)
  | [], _ :: _ => .inl rfl
  | _ :: _, [] => .inr (.inr rfl)
  | x :: a, y :: b => by
    rw [cmpR]
    by_cases h1 : x < y
    · rw [if_pos h1]; exact .inl rfl
    · by_cases h2 : y < x
      · rw [if_neg h1, if_pos h2]; exact .inr (.inr rfl)
      · rw [if_neg h1, if_neg h2]
        have hx : x = y := by omega
        rcases cmpR_three a b with h | ⟨h, e⟩ | h
        · exact .inl h
        · exact .inr (.inl ⟨h, by rw [hx, e]⟩)
        · exact .inr (.inr h)
theorem cmpR_zero {a b : List Int} : cmpR a b = 0 ↔ a = b := by
  constructor
  · intro h
    rcases cmpR_three a b with h1 | ⟨_, e⟩ | h1
    · omega
    · exact e
    · omega
  · rintro rfl
    exact cmpR_self a
theorem cmpR_trans : ∀ a b c, cmpR a b = -1 → cmpR b c = -1 → cmpR a c = -1
  | [], _, [], h, h' => by
    rename_i b
    cases b with
    | nil => exact h
    | cons y b => rw [cmpR] at h'; omega
  | [], _, _ :: _, _, _ => rfl
  | _ :: _, [], _, h, _ => by rw [cmpR] at h; omega
  | _ :: _, _ :: _, [], _, h' => by rw [cmpR] at h'; omega
  | x :: a, y :: b, z :: c, h, h' => by
    rw [cmpR] at h h' ⊢
    by_cases h1 : x < y
    · by_cases h2 : y < z
      · rw [if_pos (by omega)]
      · rw [if_neg h2] at h'
        by_cases h3 : z < y
        · rw [if_pos h3] at h'; omega
        · rw [if_pos (by omega)]
    · rw [if_neg h1] at h
      by_cases h3 : y < x
      · rw [if_pos h3] at h; omega
      · rw [if_neg h3] at h
        by_cases h2 : y < z
        · rw [if_pos (by omega)]
        · rw [if_neg h2] at h'
          by_cases h4 : z < y
          · rw [if_pos h4] at h'; omega
          · rw [if_neg h4] at h'
            rw [if_neg (by omega), if_neg (by omega)]
            exact cmpR_trans a b c h h'
theorem cmpR_app : ∀ p u v, cmpR (p ++ u) (p ++ v) = cmpR u v
  | [], _, _ => rfl
  | x :: p, u, v => by
    rw [List.cons_append, List.cons_append, cmpR, if_neg (by omega), if_neg (by omega), cmpR_app p u v]

/-- A rune's bytes tell it in order. -/
theorem ez_cases {r : Int} (h : okR r) : (r ≤ 127 ∧ encodeRuneZ r = [r]) ∨ (128 ≤ r ∧ r ≤ 2047 ∧ encodeRuneZ r = [192 + r / 64, 128 + r % 64]) ∨
    (2048 ≤ r ∧ r ≤ 65535 ∧ encodeRuneZ r = [224 + r / 4096, 128 + r / 64 % 64, 128 + r % 64]) ∨ (65536 ≤ r ∧ encodeRuneZ r = [240 + r / 262144, 128 + r / 4096 % 64, 128 + r / 64 % 64, 128 + r % 64]) := by
  obtain ⟨h0, h1, h2⟩ := h
  by_cases a : r ≤ 127
  · exact .inl ⟨a, encodeRuneZ_one h0 a⟩
  · by_cases b : r ≤ 2047
    · exact .inr (.inl ⟨by omega, b, encodeRuneZ_two (by omega) b⟩)
    · by_cases c : r ≤ 65535
      · exact .inr (.inr (.inl ⟨by omega, c, encodeRuneZ_three (by omega)⟩))
      · exact .inr (.inr (.inr ⟨by omega, encodeRuneZ_four (by omega) h1⟩))

theorem cmpR_lt {a b : Int} {r s : List Int} (h : a < b) : cmpR (a :: r) (b :: s) = -1 := by rw [cmpR, if_pos h]
theorem cmpR_eq {a b : Int} {r s : List Int} (h : a = b) : cmpR (a :: r) (b :: s) = cmpR r s := by rw [cmpR, if_neg (by omega), if_neg (by omega)]

theorem ez_less {x y : Int} (hx : okR x) (hy : okR y) (h : x < y) (u v : List Int) : cmpR (encodeRuneZ x ++ u) (encodeRuneZ y ++ v) = -1 := by
  have := hx.1
  have := hy.2.1
  rcases ez_cases hx with ⟨a, e⟩ | ⟨a, a', e⟩ | ⟨a, a', e⟩ | ⟨a, e⟩ <;> rcases ez_cases hy with ⟨b, f⟩ | ⟨b, b', f⟩ | ⟨b, b', f⟩ | ⟨b, f⟩ <;> rw [e, f] <;> simp only [List.cons_append, List.nil_append]
  all_goals first
    | exact cmpR_lt (by omega)
    | (exfalso; omega)
    | skip
  · rcases Int.lt_or_eq_of_le (show 192 + x / 64 ≤ 192 + y / 64 by omega) with g | g
    · exact cmpR_lt g
    · rw [cmpR_eq g]; exact cmpR_lt (by omega)
  · rcases Int.lt_or_eq_of_le (show 224 + x / 4096 ≤ 224 + y / 4096 by omega) with g | g
    · exact cmpR_lt g
    · rw [cmpR_eq g]
      rcases Int.lt_or_eq_of_le (show 128 + x / 64 % 64 ≤ 128 + y / 64 % 64 by omega) with g2 | g2
      · exact cmpR_lt g2
      · rw [cmpR_eq g2]; exact cmpR_lt (by omega)
  · rcases Int.lt_or_eq_of_le (show 240 + x / 262144 ≤ 240 + y / 262144 by omega) with g | g
    · exact cmpR_lt g
    · rw [cmpR_eq g]
      rcases Int.lt_or_eq_of_le (show 128 + x / 4096 % 64 ≤ 128 + y / 4096 % 64 by omega) with g3 | g3
      · exact cmpR_lt g3
      · rw [cmpR_eq g3]
        rcases Int.lt_or_eq_of_le (show 128 + x / 64 % 64 ≤ 128 + y / 64 % 64 by omega) with g2 | g2
        · exact cmpR_lt g2
        · rw [cmpR_eq g2]; exact cmpR_lt (by omega)

theorem ez_ne {x : Int} (hx : okR x) : ∃ a r, encodeRuneZ x = a :: r := by
  rcases ez_cases hx with ⟨_, e⟩ | ⟨_, _, e⟩ | ⟨_, _, e⟩ | ⟨_, e⟩ <;> exact ⟨_, _, e⟩

theorem cmp_enc : ∀ (a b : List Int), (∀ r ∈ a, okR r) → (∀ r ∈ b, okR r) → cmpR a b = cmpR (a.flatMap encodeRuneZ) (b.flatMap encodeRuneZ)
  | [], [], _, _ => rfl
  | [], y :: b, _, hb => by
    obtain ⟨c, r, e⟩ := ez_ne (hb y (List.mem_cons_self ..))
    rw [List.flatMap_cons, e]
    rfl
  | x :: a, [], ha, _ => by
    obtain ⟨c, r, e⟩ := ez_ne (ha x (List.mem_cons_self ..))
    rw [List.flatMap_cons, e]
    rfl
  | x :: a, y :: b, ha, hb => by
    have hx := ha x (List.mem_cons_self ..)
    have hy := hb y (List.mem_cons_self ..)
    rw [List.flatMap_cons, List.flatMap_cons, cmpR]
    by_cases h1 : x < y
    · rw [if_pos h1, ez_less hx hy h1]
    · by_cases h2 : y < x
      · rw [if_neg h1, if_pos h2, cmpR_neg (encodeRuneZ y ++ _), ez_less hy hx h2]; rfl
      · have e : x = y := by omega
        subst e
        rw [if_neg h1, if_neg h1, cmpR_app]
        exact cmp_enc a b (fun r hr => ha r (List.mem_cons_of_mem _ hr)) fun r hr => hb r (List.mem_cons_of_mem _ hr)

/-- Bytes as numbers. -/
def bz (l : List UInt8) : List Int := l.map fun c => (c.toNat : Int)
theorem bz_enc {r : Int} (h : okR r) : bz (encodeRune r) = encodeRuneZ r := by
  have h0 := h.1
  have h1 := h.2.1
  have e : ∀ x : Int, 0 ≤ x → x < 256 → ((x.toNat.toUInt8.toNat : Nat) : Int) = x := by
    intro x hx hx'
    have : x.toNat.toUInt8.toNat = x.toNat % 256 := rfl
    rw [this]
    omega
  unfold bz encodeRune
  rcases ez_cases h with ⟨a, q⟩ | ⟨a, a', q⟩ | ⟨a, a', q⟩ | ⟨a, q⟩ <;> rw [q] <;> simp only [List.map_cons, List.map_nil]
  · rw [e _ (by omega) (by omega)]
  · rw [e _ (by omega) (by omega), e _ (by omega) (by omega)]
  · rw [e _ (by omega) (by omega), e _ (by omega) (by omega), e _ (by omega) (by omega)]
  · rw [e _ (by omega) (by omega), e _ (by omega) (by omega), e _ (by omega) (by omega), e _ (by omega) (by omega)]
theorem bz_flat : ∀ (a : List Int), (∀ r ∈ a, okR r) → bz (a.flatMap encodeRune) = a.flatMap encodeRuneZ
  | [], _ => rfl
  | x :: a, h => by
    rw [List.flatMap_cons, List.flatMap_cons, ← bz_enc (h x (List.mem_cons_self ..)), ← bz_flat a fun r hr => h r (List.mem_cons_of_mem _ hr)]
    unfold bz
    rw [List.map_append]

/-- Valid texts stand alike by runes and by bytes. -/
theorem cmp_text {a b : List UInt8} (ha : validD a = true) (hb : validD b = true) : cmpR (rns a) (rns b) = cmpR (bz a) (bz b) := by
  rw [cmp_enc _ _ (runes_ok ha) (runes_ok hb), ← bz_flat _ (runes_ok ha), ← bz_flat _ (runes_ok hb), enc_back ha, enc_back hb]

theorem bz_inj {a b : List UInt8} : bz a = bz b ↔ a = b := by
  constructor
  · intro h
    unfold bz at h
    exact (List.map_inj_right (fun x y hxy => UInt8.toNat_inj.1 (by exact Int.ofNat.inj hxy))).1 h
  · rintro rfl
    rfl
theorem eq_cmp (a b : List UInt8) : (a == b) = decide (cmpR (bz a) (bz b) = 0) := by
  by_cases h : a = b
  · subst h
    simp [cmpR_self]
  · have : ¬ cmpR (bz a) (bz b) = 0 := fun h' => h (bz_inj.1 (cmpR_zero.1 h'))
    simp [h, this]
theorem less_cmp : ∀ a b : List UInt8, Op.bytesLess a b = decide (cmpR (bz a) (bz b) = -1)
  | [], [] => rfl
  | [], _ :: _ => rfl
  | _ :: _, [] => rfl
  | x :: a, y :: b => by
    have ih := less_cmp a b
    unfold bz at ih ⊢
    rw [Op.bytesLess, List.map_cons, List.map_cons, cmpR]
    by_cases h1 : x < y
    · have : (x.toNat : Int) < (y.toNat : Int) := by exact_mod_cast h1
      simp [h1, this]
    · by_cases h2 : y < x
      · have k : (y.toNat : Int) < (x.toNat : Int) := by exact_mod_cast h2
        have k' : ¬ (x.toNat : Int) < (y.toNat : Int) := by omega
        have h3 : ¬ x = y := by rintro rfl; omega
        simp [h1, k, k', h3]
      · have h3 : x = y := UInt8.toNat_inj.1 (by rw [UInt8.lt_iff_toNat_lt] at h1 h2; omega)
        subst h3
        simp [ih]
end Go.Proofs.YtmbjmgmnicacpaaGreatDoor
namespace Go.Proofs.YtmbjmgmnicacpaaGreatDoor

inductive VX where
  | blank
  | num (m : Int) (s : Nat)
  | str (t : List UInt8)
  | bool (b : Bool)
  | err (e : Int)

namespace VX
def kind : VX → Int
  | blank => 0
  | num .. => 1
  | str .. => 2
  | bool .. => 3
  | err .. => 4
end VX
def rk (b : Bool) : Int := if b then 1 else 0
/-- What a value may be. -/
def OkX : VX → Prop
  | .num m s => Gd m s
  | .str t => uE t = 0
  | .err e => e = 0 ∨ e = 7 ∨ e = 15 ∨ e = 23 ∨ e = 29 ∨ e = 36 ∨ e = 42
  | _ => True
/-- For a Blank the nothing of the other one's kind. -/
def fillX : VX → VX → VX
  | .blank, .num .. => .num 0 0
  | .blank, .str .. => .str []
  | .blank, .bool .. => .bool false
  | a, _ => a
def cmpF : VX → VX → Int
  | .num m s, .num n t => cmp (val m s) (val n t)
  | .str a, .str b => cmpR (rns a) (rns b)
  | .bool a, .bool b => cmp (rk a) (rk b)
  | .err a, .err b => cmp a b
  | a, b => cmp a.kind b.kind
def cmpX (a b : VX) : Int := cmpF (fillX a b) (fillX b a)

theorem fill_self {a b : VX} (h : a ≠ .blank) : fillX a b = a := by cases a <;> first | exact absurd rfl h | rfl
theorem cmpX_full {a b : VX} (ha : a ≠ .blank) (hb : b ≠ .blank) : cmpX a b = cmpF a b := by unfold cmpX; rw [fill_self ha, fill_self hb]
theorem cmpF_neg (a b : VX) : cmpF b a = - cmpF a b := by
  cases a <;> cases b <;> first | exact cmp_neg _ _ | exact cmpR_neg _ _
theorem cmpX_neg (a b : VX) : cmpX b a = - cmpX a b := cmpF_neg _ _
theorem cmp_three (x y : Int) : cmp x y = -1 ∨ cmp x y = 0 ∨ cmp x y = 1 := by unfold cmp; split <;> (try split) <;> omega
theorem cmpF_three (a b : VX) : cmpF a b = -1 ∨ cmpF a b = 0 ∨ cmpF a b = 1 := by
  cases a <;> cases b <;> first | exact cmp_three _ _ | (rename_i x y; rcases cmpR_three (rns x) (rns y) with h | ⟨h, -⟩ | h; exact .inl h; exact .inr (.inl h); exact .inr (.inr h))
theorem cmp_less {x y : Int} : cmp x y = -1 ↔ x < y := by unfold cmp; split <;> (try split) <;> omega
theorem cmpF_trans {a b c : VX} (h : cmpF a b = -1) (h' : cmpF b c = -1) : cmpF a c = -1 := by
  cases a <;> cases b <;> cases c <;> simp only [cmpF, cmp_less, VX.kind] at * <;> first | omega | exact cmpR_trans _ _ _ h h'
theorem rns_inj {a b : List UInt8} (ha : uE a = 0) (hb : uE b = 0) (h : rns a = rns b) : a = b := by
  rw [← enc_back (uE_valid ha).1, ← enc_back (uE_valid hb).1, h]
theorem cmpF_zero {a b : VX} (ha : OkX a) (hb : OkX b) : cmpF a b = 0 ↔ a = b := by
  constructor
  · intro h
    cases a <;> cases b <;> simp only [cmpF, cmp_zero, cmpR_zero, VX.kind] at h <;> first | omega | rfl | skip
    · obtain ⟨rfl, rfl⟩ := val_inj ha hb h
      rfl
    · rw [rns_inj ha hb h]
    · rename_i x y
      cases x <;> cases y <;> simp_all [rk]
    · rw [h]
  · rintro rfl
    cases a <;> simp [cmpF, cmp_zero, cmpR_self]
theorem cmpF_hold {a b c : VX} (ha : OkX a) (hb : OkX b) (hc : OkX c) : 0 < cmpF a b ∨ 0 < cmpF b c ∨ cmpF a c ≤ 0 ∧ (cmpF a c < 0 ∨ cmpF a b = 0 ∧ cmpF b c = 0) := by
  rcases cmpF_three a b with h | h | h
  · rcases cmpF_three b c with h' | h' | h'
    · have := cmpF_trans h h'
      omega
    · obtain rfl := (cmpF_zero hb hc).1 h'
      omega
    · omega
  · obtain rfl := (cmpF_zero ha hb).1 h
    rcases cmpF_three a c with h' | h' | h' <;> omega
  · omega

/-- A decimal in words begins with a digit or a minus. -/
theorem decTx_head (m : Int) (s : Nat) : ∃ c r, decTx m s = c :: r ∧ c.toNat < 58 := by
  unfold decTx
  by_cases h : m < 0
  · rw [if_pos h]
    exact ⟨45, _, rfl, by decide⟩
  · rw [if_neg h, List.nil_append, body]
    have hl := padded_len m.natAbs s
    have hd : Digs (padded m.natAbs s) := by
      unfold padded
      exact (digs_digs _).append fun x hx => by rw [List.mem_replicate] at hx; omega
    generalize padded m.natAbs s = l at *
    have hne : (l.drop s) ≠ [] := by
      intro h
      have := congrArg List.length h
      simp at this
      omega
    obtain ⟨q, x, hq⟩ : ∃ q x, l.drop s = q ++ [x] := ⟨_, _, (List.dropLast_concat_getLast hne).symm⟩
    refine ⟨bt x, _, by rw [hq]; simp only [List.map_append, List.map_cons, List.map_nil, List.reverse_append, List.reverse_cons, List.reverse_nil, List.nil_append, List.cons_append, List.append_assoc]; rfl, ?_⟩
    have hx : x < 10 := hd x (List.mem_of_mem_drop (i := s) (by rw [hq]; simp))
    unfold bt
    rw [UInt8.toNat_ofNat_of_lt' (by show _ < 256; omega)]
    omega
end Go.Proofs.YtmbjmgmnicacpaaGreatDoor
