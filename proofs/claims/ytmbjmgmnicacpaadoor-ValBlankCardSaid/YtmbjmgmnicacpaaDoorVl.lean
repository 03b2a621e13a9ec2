/- Values, plainly: their five forms, their order. No program; no condition but the forms' own. -/
import Derived.Test.YtmbjmgmnicacpaaDoorOrd
import Derived.Test.YtmbjmgmnicacpaaDoorDecP
import Derived.Test.YtmbjmgmnicacpaaDoorDecQ
import Derived.Test.YtmbjmgmnicacpaaDoorFit2
namespace Go.Proofs.YtmbjmgmnicacpaaDoor

inductive VX where
  | blank
  | num (m : Int) (s : Nat)
  | str (t : List UInt8)
  | bool (b : Bool)
  | err (e : Int)

namespace VX
def kind : VX → Int
  | blank => 0
  | num .. => 1
  | str .. => 2
  | bool .. => 3
  | err .. => 4
end VX
def rk (b : Bool) : Int := if b then 1 else 0
/-- What a value may be. -/
def OkX : VX → Prop
  | .num m s => Gd m s
  | .str t => uE t = 0
  | .err e => e = 0 ∨ e = 7 ∨ e = 15 ∨ e = 23 ∨ e = 29 ∨ e = 36 ∨ e = 42
  | _ => True
/-- For a Blank the nothing of the other one's kind. -/
def fillX : VX → VX → VX
  | .blank, .num .. => .num 0 0
  | .blank, .str .. => .str []
  | .blank, .bool .. => .bool false
  | a, _ => a
def cmpF : VX → VX → Int
  | .num m s, .num n t => cmp (val m s) (val n t)
  | .str a, .str b => cmpR (rns a) (rns b)
  | .bool a, .bool b => cmp (rk a) (rk b)
  | .err a, .err b => cmp a b
  | a, b => cmp a.kind b.kind
def cmpX (a b : VX) : Int := cmpF (fillX a b) (fillX b a)

theorem fill_self {a b : VX} (h : a ≠ .blank) : fillX a b = a := by cases a <;> first | exact absurd rfl h | rfl
theorem cmpX_full {a b : VX} (ha : a ≠ .blank) (hb : b ≠ .blank) : cmpX a b = cmpF a b := by unfold cmpX; rw [fill_self ha, fill_self hb]
theorem cmpF_neg (a b : VX) : cmpF b a = - cmpF a b := by
  cases a <;> cases b <;> first | exact cmp_neg _ _ | exact cmpR_neg _ _
theorem cmpX_neg (a b : VX) : cmpX b a = - cmpX a b := cmpF_neg _ _
theorem cmp_three (x y : Int) : cmp x y = -1 ∨ cmp x y = 0 ∨ cmp x y = 1 := by unfold cmp; split <;> (try split) <;> omega
theorem cmpF_three (a b : VX) : cmpF a b = -1 ∨ cmpF a b = 0 ∨ cmpF a b = 1 := by
  cases a <;> cases b <;> first | exact cmp_three _ _ | (rename_i x y; rcases cmpR_three (rns x) (rns y) with h | ⟨h, -⟩ | h; exact .inl h; exact .inr (.inl h); exact .inr (.inr h))
theorem cmp_less {x y : Int} : cmp x y = -1 ↔ x < y := by unfold cmp; split <;> (try split) <;> omega
theorem cmpF_trans {a b c : VX} (h : cmpF a b = -1) (h' : cmpF b c = -1) : cmpF a c = -1 := by
  cases a <;> cases b <;> cases c <;> simp only [cmpF, cmp_less, VX.kind] at * <;> first | omega | exact cmpR_trans _ _ _ h h'
theorem rns_inj {a b : List UInt8} (ha : uE a = 0) (hb : uE b = 0) (h : rns a = rns b) : a = b := by
  rw [← enc_back (uE_valid ha).1, ← enc_back (uE_valid hb).1, h]
theorem cmpF_zero {a b : VX} (ha : OkX a) (hb : OkX b) : cmpF a b = 0 ↔ a = b := by
  constructor
  · intro h
    cases a <;> cases b <;> simp only [cmpF, cmp_zero, cmpR_zero, VX.kind] at h <;> first | omega | rfl | skip
    · obtain ⟨rfl, rfl⟩ := val_inj ha hb h
      rfl
    · rw [rns_inj ha hb h]
    · rename_i x y
      cases x <;> cases y <;> simp_all [rk]
    · rw [h]
  · rintro rfl
    cases a <;> simp [cmpF, cmp_zero, cmpR_self]
theorem cmpF_hold {a b c : VX} (ha : OkX a) (hb : OkX b) (hc : OkX c) : 0 < cmpF a b ∨ 0 < cmpF b c ∨ cmpF a c ≤ 0 ∧ (cmpF a c < 0 ∨ cmpF a b = 0 ∧ cmpF b c = 0) := by
  rcases cmpF_three a b with h | h | h
  · rcases cmpF_three b c with h' | h' | h'
    · have := cmpF_trans h h'
      omega
    · obtain rfl := (cmpF_zero hb hc).1 h'
      omega
    · omega
  · obtain rfl := (cmpF_zero ha hb).1 h
    rcases cmpF_three a c with h' | h' | h' <;> omega
  · omega

/-- A decimal in words begins with a digit or a minus. -/
theorem decTx_head (m : Int) (s : Nat) : ∃ c r, decTx m s = c :: r ∧ c.toNat < 58 := by
  unfold decTx
  by_cases h : m < 0
  · rw [if_pos h]
    exact ⟨45, _, rfl, by decide⟩
  · rw [if_neg h, List.nil_append, body]
    have hl := padded_len m.natAbs s
    have hd : Digs (padded m.natAbs s) := by
      unfold padded
      exact (digs_digs _).append fun x hx => by rw [List.mem_replicate] at hx; omega
    generalize padded m.natAbs s = l at *
    have hne : (l.drop s) ≠ [] := by
      intro h
      have := congrArg List.length h
      simp at this
      omega
    obtain ⟨q, x, hq⟩ : ∃ q x, l.drop s = q ++ [x] := ⟨_, _, (List.dropLast_concat_getLast hne).symm⟩
    refine ⟨bt x, _, by rw [hq]; simp only [List.map_append, List.map_cons, List.map_nil, List.reverse_append, List.reverse_cons, List.reverse_nil, List.nil_append, List.cons_append, List.append_assoc]; rfl, ?_⟩
    have hx : x < 10 := hd x (List.mem_of_mem_drop (i := s) (by rw [hq]; simp))
    unfold bt
    rw [UInt8.toNat_ofNat_of_lt' (by show _ < 256; omega)]
    omega
end Go.Proofs.YtmbjmgmnicacpaaDoor
