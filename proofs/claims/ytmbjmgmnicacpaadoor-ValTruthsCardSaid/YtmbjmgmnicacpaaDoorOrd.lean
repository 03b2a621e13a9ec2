/- Texts in order: by runes and by bytes they stand alike, as long as they are valid. No program; no condition but that. -/
import Derived.Test.YtmbjmgmnicacpaaDoorStr0
import GoSem.Op.String
namespace Go.Proofs.YtmbjmgmnicacpaaDoor
open Go.Lib Go.Op

/-- The order of two rows of numbers: -1, 0, 1. -/
def cmpR : List Int → List Int → Int
  | [], [] => 0
  | [], _ :: _ => -1
  | _ :: _, [] => 1
  | a :: r, b :: s => if a < b then -1 else if b < a then 1 else cmpR r s

theorem cmpR_self : ∀ a, cmpR a a = 0
  | [] => rfl
  | x :: a => by simp [cmpR, cmpR_self a]
theorem cmpR_neg : ∀ a b, cmpR b a = - cmpR a b
  | [], [] => rfl
  | [], _ :: _ => rfl
  | _ :: _, [] => rfl
  | x :: a, y :: b => by
    rw [cmpR, cmpR, cmpR_neg a b]
    by_cases h1 : x < y
    · rw [if_pos h1, if_neg (by omega), if_pos h1]; rfl
    · by_cases h2 : y < x
      · rw [if_pos h2, if_neg h1, if_pos h2]
      · rw [if_neg h2, if_neg h1, if_neg h1, if_neg h2]
theorem cmpR_three : ∀ a b, cmpR a b = -1 ∨ cmpR a b = 0 ∧ a = b ∨ cmpR a b = 1
  | [], [] => .inr (.inl ⟨rfl, rfl⟩)
  | [], _ :: _ => .inl rfl
  | _ :: _, [] => .inr (.inr rfl)
  | x :: a, y :: b => by
    rw [cmpR]
    by_cases h1 : x < y
    · rw [if_pos h1]; exact .inl rfl
    · by_cases h2 : y < x
      · rw [if_neg h1, if_pos h2]; exact .inr (.inr rfl)
      · rw [if_neg h1, if_neg h2]
        have hx : x = y := by omega
        rcases cmpR_three a b with h | ⟨h, e⟩ | h
        · exact .inl h
        · exact .inr (.inl ⟨h, by rw [hx, e]⟩)
        · exact .inr (.inr h)
theorem cmpR_zero {a b : List Int} : cmpR a b = 0 ↔ a = b := by
  constructor
  · intro h
    rcases cmpR_three a b with h1 | ⟨_, e⟩ | h1
    · omega
    · exact e
    · omega
  · rintro rfl
    exact cmpR_self a
theorem cmpR_trans : ∀ a b c, cmpR a b = -1 → cmpR b c = -1 → cmpR a c = -1
  | [], _, [], h, h' => by
    rename_i b
    cases b with
    | nil => exact h
    | cons y b => rw [cmpR] at h'; omega
  | [], _, _ :: _, _, _ => rfl
  | _ :: _, [], _, h, _ => by rw [cmpR] at h; omega
  | _ :: _, _ :: _, [], _, h' => by rw [cmpR] at h'; omega
  | x :: a, y :: b, z :: c, h, h' => by
    rw [cmpR] at h h' ⊢
    by_cases h1 : x < y
    · by_cases h2 : y < z
      · rw [if_pos (by omega)]
      · rw [if_neg h2] at h'
        by_cases h3 : z < y
        · rw [if_pos h3] at h'; omega
        · rw [if_pos (by omega)]
    · rw [if_neg h1] at h
      by_cases h3 : y < x
      · rw [if_pos h3] at h; omega
      · rw [if_neg h3] at h
        by_cases h2 : y < z
        · rw [if_pos (by omega)]
        · rw [if_neg h2] at h'
          by_cases h4 : z < y
          · rw [if_pos h4] at h'; omega
          · rw [if_neg h4] at h'
            rw [if_neg (by omega), if_neg (by omega)]
            exact cmpR_trans a b c h h'
theorem cmpR_app : ∀ p u v, cmpR (p ++ u) (p ++ v) = cmpR u v
  | [], _, _ => rfl
  | x :: p, u, v => by
    rw [List.cons_append, List.cons_append, cmpR, if_neg (by omega), if_neg (by omega), cmpR_app p u v]

/-- A rune's bytes tell it in order. -/
theorem ez_cases {r : Int} (h : okR r) : (r ≤ 127 ∧ encodeRuneZ r = [r]) ∨ (128 ≤ r ∧ r ≤ 2047 ∧ encodeRuneZ r = [192 + r / 64, 128 + r % 64]) ∨
    (2048 ≤ r ∧ r ≤ 65535 ∧ encodeRuneZ r = [224 + r / 4096, 128 + r / 64 % 64, 128 + r % 64]) ∨ (65536 ≤ r ∧ encodeRuneZ r = [240 + r / 262144, 128 + r / 4096 % 64, 128 + r / 64 % 64, 128 + r % 64]) := by
  obtain ⟨h0, h1, h2⟩ := h
  by_cases a : r ≤ 127
  · exact .inl ⟨a, encodeRuneZ_one h0 a⟩
  · by_cases b : r ≤ 2047
    · exact .inr (.inl ⟨by omega, b, encodeRuneZ_two (by omega) b⟩)
    · by_cases c : r ≤ 65535
      · exact .inr (.inr (.inl ⟨by omega, c, encodeRuneZ_three (by omega)⟩))
      · exact .inr (.inr (.inr ⟨by omega, encodeRuneZ_four (by omega) h1⟩))

theorem cmpR_lt {a b : Int} {r s : List Int} (h : a < b) : cmpR (a :: r) (b :: s) = -1 := by rw [cmpR, if_pos h]
theorem cmpR_eq {a b : Int} {r s : List Int} (h : a = b) : cmpR (a :: r) (b :: s) = cmpR r s := by rw [cmpR, if_neg (by omega), if_neg (by omega)]

theorem ez_less {x y : Int} (hx : okR x) (hy : okR y) (h : x < y) (u v : List Int) : cmpR (encodeRuneZ x ++ u) (encodeRuneZ y ++ v) = -1 := by
  have := hx.1
  have := hy.2.1
  rcases ez_cases hx with ⟨a, e⟩ | ⟨a, a', e⟩ | ⟨a, a', e⟩ | ⟨a, e⟩ <;> rcases ez_cases hy with ⟨b, f⟩ | ⟨b, b', f⟩ | ⟨b, b', f⟩ | ⟨b, f⟩ <;> rw [e, f] <;> simp only [List.cons_append, List.nil_append]
  all_goals first
    | exact cmpR_lt (by omega)
    | (exfalso; omega)
    | skip
  · rcases Int.lt_or_eq_of_le (show 192 + x / 64 ≤ 192 + y / 64 by omega) with g | g
    · exact cmpR_lt g
    · rw [cmpR_eq g]; exact cmpR_lt (by omega)
  · rcases Int.lt_or_eq_of_le (show 224 + x / 4096 ≤ 224 + y / 4096 by omega) with g | g
    · exact cmpR_lt g
    · rw [cmpR_eq g]
      rcases Int.lt_or_eq_of_le (show 128 + x / 64 % 64 ≤ 128 + y / 64 % 64 by omega) with g2 | g2
      · exact cmpR_lt g2
      · rw [cmpR_eq g2]; exact cmpR_lt (by omega)
  · rcases Int.lt_or_eq_of_le (show 240 + x / 262144 ≤ 240 + y / 262144 by omega) with g | g
    · exact cmpR_lt g
    · rw [cmpR_eq g]
      rcases Int.lt_or_eq_of_le (show 128 + x / 4096 % 64 ≤ 128 + y / 4096 % 64 by omega) with g3 | g3
      · exact cmpR_lt g3
      · rw [cmpR_eq g3]
        rcases Int.lt_or_eq_of_le (show 128 + x / 64 % 64 ≤ 128 + y / 64 % 64 by omega) with g2 | g2
        · exact cmpR_lt g2
        · rw [cmpR_eq g2]; exact cmpR_lt (by omega)

theorem ez_ne {x : Int} (hx : okR x) : ∃ a r, encodeRuneZ x = a :: r := by
  rcases ez_cases hx with ⟨_, e⟩ | ⟨_, _, e⟩ | ⟨_, _, e⟩ | ⟨_, e⟩ <;> exact ⟨_, _, e⟩

theorem cmp_enc : ∀ (a b : List Int), (∀ r ∈ a, okR r) → (∀ r ∈ b, okR r) → cmpR a b = cmpR (a.flatMap encodeRuneZ) (b.flatMap encodeRuneZ)
  | [], [], _, _ => rfl
  | [], y :: b, _, hb => by
    obtain ⟨c, r, e⟩ := ez_ne (hb y (List.mem_cons_self ..))
    rw [List.flatMap_cons, e]
    rfl
  | x :: a, [], ha, _ => by
    obtain ⟨c, r, e⟩ := ez_ne (ha x (List.mem_cons_self ..))
    rw [List.flatMap_cons, e]
    rfl
  | x :: a, y :: b, ha, hb => by
    have hx := ha x (List.mem_cons_self ..)
    have hy := hb y (List.mem_cons_self ..)
    rw [List.flatMap_cons, List.flatMap_cons, cmpR]
    by_cases h1 : x < y
    · rw [if_pos h1, ez_less hx hy h1]
    · by_cases h2 : y < x
      · rw [if_neg h1, if_pos h2, cmpR_neg (encodeRuneZ y ++ _), ez_less hy hx h2]; rfl
      · have e : x = y := by omega
        subst e
        rw [if_neg h1, if_neg h1, cmpR_app]
        exact cmp_enc a b (fun r hr => ha r (List.mem_cons_of_mem _ hr)) fun r hr => hb r (List.mem_cons_of_mem _ hr)

/-- Bytes as numbers. -/
def bz (l : List UInt8) : List Int := l.map fun c => (c.toNat : Int)
theorem bz_enc {r : Int} (h : okR r) : bz (encodeRune r) = encodeRuneZ r := by
  have h0 := h.1
  have h1 := h.2.1
  have e : ∀ x : Int, 0 ≤ x → x < 256 → ((x.toNat.toUInt8.toNat : Nat) : Int) = x := by
    intro x hx hx'
    have : x.toNat.toUInt8.toNat = x.toNat % 256 := rfl
    rw [this]
    omega
  unfold bz encodeRune
  rcases ez_cases h with ⟨a, q⟩ | ⟨a, a', q⟩ | ⟨a, a', q⟩ | ⟨a, q⟩ <;> rw [q] <;> simp only [List.map_cons, List.map_nil]
  · rw [e _ (by omega) (by omega)]
  · rw [e _ (by omega) (by omega), e _ (by omega) (by omega)]
  · rw [e _ (by omega) (by omega), e _ (by omega) (by omega), e _ (by omega) (by omega)]
  · rw [e _ (by omega) (by omega), e _ (by omega) (by omega), e _ (by omega) (by omega), e _ (by omega) (by omega)]
theorem bz_flat : ∀ (a : List Int), (∀ r ∈ a, okR r) → bz (a.flatMap encodeRune) = a.flatMap encodeRuneZ
  | [], _ => rfl
  | x :: a, h => by
    rw [List.flatMap_cons, List.flatMap_cons, ← bz_enc (h x (List.mem_cons_self ..)), ← bz_flat a fun r hr => h r (List.mem_cons_of_mem _ hr)]
    unfold bz
    rw [List.map_append]

/-- Valid texts stand alike by runes and by bytes. -/
theorem cmp_text {a b : List UInt8} (ha : validD a = true) (hb : validD b = true) : cmpR (rns a) (rns b) = cmpR (bz a) (bz b) := by
  rw [cmp_enc _ _ (runes_ok ha) (runes_ok hb), ← bz_flat _ (runes_ok ha), ← bz_flat _ (runes_ok hb), enc_back ha, enc_back hb]

theorem bz_inj {a b : List UInt8} : bz a = bz b ↔ a = b := by
  constructor
  · intro h
    unfold bz at h
    exact (List.map_inj_right (fun x y hxy => UInt8.toNat_inj.1 (by exact Int.ofNat.inj hxy))).1 h
  · rintro rfl
    rfl
theorem eq_cmp (a b : List UInt8) : (a == b) = decide (cmpR (bz a) (bz b) = 0) := by
  by_cases h : a = b
  · subst h
    simp [cmpR_self]
  · have : ¬ cmpR (bz a) (bz b) = 0 := fun h' => h (bz_inj.1 (cmpR_zero.1 h'))
    simp [h, this]
theorem less_cmp : ∀ a b : List UInt8, Op.bytesLess a b = decide (cmpR (bz a) (bz b) = -1)
  | [], [] => rfl
  | [], _ :: _ => rfl
  | _ :: _, [] => rfl
  | x :: a, y :: b => by
    have ih := less_cmp a b
    unfold bz at ih ⊢
    rw [Op.bytesLess, List.map_cons, List.map_cons, cmpR]
    by_cases h1 : x < y
    · have : (x.toNat : Int) < (y.toNat : Int) := by exact_mod_cast h1
      simp [h1, this]
    · by_cases h2 : y < x
      · have k : (y.toNat : Int) < (x.toNat : Int) := by exact_mod_cast h2
        have k' : ¬ (x.toNat : Int) < (y.toNat : Int) := by omega
        have h3 : ¬ x = y := by rintro rfl; omega
        simp [h1, k, k', h3]
      · have h3 : x = y := UInt8.toNat_inj.1 (by rw [UInt8.lt_iff_toNat_lt] at h1 h2; omega)
        subst h3
        simp [ih]
end Go.Proofs.YtmbjmgmnicacpaaDoor
