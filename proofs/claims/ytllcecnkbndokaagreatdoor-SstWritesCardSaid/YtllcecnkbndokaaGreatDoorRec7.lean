/- Records, plainly: the model of package rec over lists; and its calls that only look: rise, longest, Check, slices.Equal, Same. Conditions: the numbers are int's. -/
import Derived.Test.YtllcecnkbndokaaGreatDoorUnit
namespace Go.Proofs.YtllcecnkbndokaaGreatDoor
open Go.RowKit

structure RecM where
  type : Int
  data : List UInt8
  cuts : List Int
  at_ : Int

/-- An int's range. -/
def Fit (x : Int) : Prop := -9223372036854775808 ≤ x ∧ x ≤ 9223372036854775807

/-- Whether cuts rise from 'last' on and stay below size. -/
def riseB (last size : Int) : List Int → Bool
  | [] => true
  | c :: r => !(decide (c ≤ last) || decide (size ≤ c)) && riseB c size r

/-- The longest part. -/
def longM (most from_ size : Int) : List Int → Int
  | [] => max most (size - from_)
  | c :: r => longM (max most (c - from_)) c size r

def checkM (r : RecM) : Int :=
  if r.type < 0 ∨ 65535 < r.type ∨ r.type = 60 then 1
  else if 65536 < r.data.length then 4
  else if riseB 0 r.data.length r.cuts = false then 6
  else if 224 < longM 0 0 r.data.length r.cuts then 4
  else 0

theorem Rd.intAt {w : World} {B n i : Nat} {A : Option Addr} {l : List Int} (h : Rd w B 1 A n (l.map iv)) (hi : i < n) :
    ∃ a x, A = some a ∧ a.block < B ∧ w.cell? (a.add i) = some (.int .i64 x) ∧ l[i]? = some x ∧ l.drop i = x :: l.drop (i + 1) := by
  obtain ⟨a, u, ha, hb, hu, hc⟩ := h.cell hi
  have hl : i < l.length := by have := h.len; simp at this; omega
  refine ⟨a, l[i], ha, hb, ?_, List.getElem?_eq_getElem hl, List.drop_eq_getElem_cons hl⟩
  rw [hc, ← hu]
  simp [List.getElem?_eq_getElem hl, iv]

theorem rise_any {w : World} {B n c : Nat} {A : Option Addr} {l : List Int} {size : Int} (h : Rd w B 1 A n (l.map iv)) (hn : n ≤ 1000000000000000000) :
    Calls Tryz.prog 35 #[.slice A n c, .int .i64 size] w fun e w' => e = .returned (.bool (riseB 0 size l)) ∧ w = w' := by
  go_enter Tryz.func35, Tryz.ntmps35
  go_wp2
  go_loop [5, 10] (fun last i => ∃ (k : Nat) (q : Int), k ≤ n ∧ i = .int .i64 k ∧ last = .int .i64 q ∧ riseB 0 size l = riseB q size (l.drop k)) (fun _ i => n - (intOf i).toNat)
  case atStart => exact ⟨0, 0, Nat.zero_le _, rfl, rfl, rfl⟩
  case round =>
    obtain ⟨k, q, hk, rfl, rfl, hr⟩ := hrel
    by_cases hkn : k < n
    · obtain ⟨a, x, rfl, _, hc, _, hd⟩ := h.intAt hkn
      rw [hd] at hr
      have HR := Lib.hid hr
      clear hr hd h
      by_cases h1 : x ≤ q
      · go_wp2
        go_ret
        refine ⟨?_, rfl⟩
        rw [HR.out]
        simp [riseB, h1]
      · by_cases h2 : size ≤ x
        · go_wp2
          go_ret
          refine ⟨?_, rfl⟩
          rw [HR.out]
          simp [riseB, h2]
        · go_wp2
          go_round
          case rel => exact ⟨k + 1, x, by omega, by go_num, rfl, by rw [HR.out]; simp [riseB, h1, h2]⟩
          case measure => simp [intOf]; omega
    · have hd : l.drop k = [] := List.drop_eq_nil_of_le (by have := h.len; simp at this; omega)
      rw [hd] at hr
      have HR := Lib.hid hr
      clear hr hd h
      go_wp2
      go_ret
      refine ⟨?_, rfl⟩
      rw [HR.out]
      rfl

theorem riseB_cons {q size x : Int} {r : List Int} (h : riseB q size (x :: r) = true) : q < x ∧ x < size ∧ riseB x size r = true := by
  simp only [riseB, Bool.and_eq_true, Bool.not_eq_true', Bool.or_eq_false_iff, decide_eq_false_iff_not] at h
  exact ⟨by omega, by omega, h.2⟩

theorem longest_any {w : World} {B n c : Nat} {A : Option Addr} {l : List Int} {size : Int} (h : Rd w B 1 A n (l.map iv)) (hn : n ≤ 1000000000000000000)
    (hs : 0 ≤ size ∧ size ≤ 1000000000000000000) (hrise : riseB 0 size l = true) :
    Calls Tryz.prog 36 #[.slice A n c, .int .i64 size] w fun e w' => e = .returned (.int .i64 (longM 0 0 size l)) ∧ w = w' := by
  obtain ⟨s0, s1⟩ := hs
  have hR0 := Lib.hid hrise
  clear hrise
  go_enter Tryz.func36, Tryz.ntmps36
  go_wp2
  go_loop [5, 6, 11] (fun most from_ i => ∃ (k : Nat) (m q : Int), k ≤ n ∧ i = .int .i64 k ∧ most = .int .i64 m ∧ from_ = .int .i64 q ∧ 0 ≤ m ∧ m ≤ size ∧ 0 ≤ q ∧ q ≤ size ∧
      Hid (longM 0 0 size l = longM m q size (l.drop k)) ∧ Hid (riseB q size (l.drop k) = true)) (fun _ _ i => n - (intOf i).toNat)
  case atStart => exact ⟨0, 0, 0, Nat.zero_le _, rfl, rfl, rfl, by omega, by omega, by omega, by omega, rfl, hR0.out⟩
  case round =>
    obtain ⟨k, m, q, hk, rfl, rfl, rfl, m0, m1, q0, q1, HL, HR⟩ := hrel
    by_cases hkn : k < n
    · obtain ⟨a, x, rfl, _, hc, _, hd⟩ := h.intAt hkn
      rw [hd] at HL HR
      obtain ⟨x0, x1, hr⟩ := riseB_cons HR.out
      have HR' := Lib.hid hr
      clear hr hd h HR
      by_cases hm : m < x - q
      · have HL' : Hid (longM 0 0 size l = longM (x - q) x size (l.drop (k + 1))) := Lib.hid (by rw [HL.out, longM, show max m (x - q) = x - q by omega])
        clear HL
        go_wp2
        go_round
        case rel => exact ⟨k + 1, x - q, x, by omega, by go_num, by first | rfl | (congr 1; omega), rfl, by omega, by omega, by omega, by omega, HL', HR'⟩
        case measure => simp [intOf]; omega
      · have HL' : Hid (longM 0 0 size l = longM m x size (l.drop (k + 1))) := Lib.hid (by rw [HL.out, longM, show max m (x - q) = m by omega])
        clear HL
        go_wp2
        go_round
        case rel => exact ⟨k + 1, m, x, by omega, by go_num, by first | rfl | (congr 1; omega), rfl, by omega, by omega, by omega, by omega, HL', HR'⟩
        case measure => simp [intOf]; omega
    · have hd : l.drop k = [] := List.drop_eq_nil_of_le (by have := h.len; simp at this; omega)
      rw [hd] at HL
      clear hd h HR
      by_cases hm : m < size - q
      · go_wp2
        go_ret
        refine ⟨?_, rfl⟩
        rw [HL.out, longM, show max m (size - q) = size - q by omega]
        rfl
      · go_wp2
        go_ret
        refine ⟨?_, rfl⟩
        rw [HL.out, longM, show max m (size - q) = m by omega]
        rfl

/-- A record as a value: its two slices by their places. -/
def recV (r : RecM) (D : Option Addr) (dc : Nat) (C : Option Addr) (cc : Nat) : Value :=
  .agg #[.int .i64 r.type, .slice D r.data.length dc, .slice C r.cuts.length cc, .int .i64 r.at_]

/-- A record that reads, below block B, as r. -/
structure RecRd (w : World) (B : Nat) (r : RecM) (D : Option Addr) (dc : Nat) (C : Option Addr) (cc : Nat) : Prop where
  data : Rd w B 1 D r.data.length (r.data.map bv)
  cuts : Rd w B 1 C r.cuts.length (r.cuts.map iv)
  dcap : r.data.length ≤ dc ∧ r.data.length ≤ 1000000000000000000
  ccap : r.cuts.length ≤ cc ∧ r.cuts.length ≤ 1000000000000000000
  fit : Fit r.type

theorem RecRd.below {w w' : World} {B : Nat} {r : RecM} {D C : Option Addr} {dc cc : Nat} (h : RecRd w B r D dc C cc) (hb : Below B w w') : RecRd w' B r D dc C cc :=
  ⟨h.data.below hb, h.cuts.below hb, h.dcap, h.ccap, h.fit⟩
theorem RecRd.mono {w : World} {B B' : Nat} {r : RecM} {D C : Option Addr} {dc cc : Nat} (h : RecRd w B r D dc C cc) (hb : B ≤ B') : RecRd w B' r D dc C cc :=
  ⟨h.data.mono hb, h.cuts.mono hb, h.dcap, h.ccap, h.fit⟩

theorem check_any {w : World} {B : Nat} {r : RecM} {D C : Option Addr} {dc cc : Nat} (h : RecRd w B r D dc C cc) (hB : B ≤ w.heap.size) :
    Calls Tryz.prog 20 #[.agg #[.int .i64 r.type, .slice D r.data.length dc, .slice C r.cuts.length cc, .int .i64 r.at_]] w fun e w' => e = .returned (.int .i64 (checkM r)) ∧ Below w.heap.size w w' := by
  obtain ⟨hd, hc, ⟨d0, d1⟩, ⟨c0, c1⟩, ⟨f0, f1⟩⟩ := h
  obtain ⟨t, data, cuts, at_⟩ := r
  simp only at *
  generalize hdn : data.length = dn at *
  generalize hcn : cuts.length = cn at *
  have HD := Lib.hid hdn
  have c2 : cn ≤ 1000000000000000000 := by omega
  clear hdn hcn
  by_cases h1 : t < 0
  · go_enter Tryz.func20, Tryz.ntmps20
    go_wp2
    go_ret
    exact ⟨by simp [checkM, h1], (Below.refl _ _).alloc (Nat.le_refl _) _⟩
  by_cases h2 : 65535 < t
  · go_enter Tryz.func20, Tryz.ntmps20
    go_wp2
    go_ret
    exact ⟨by simp [checkM, h2], (Below.refl _ _).alloc (Nat.le_refl _) _⟩
  by_cases h3 : t = 60
  · have HT := Lib.hid h3
    have h3' : (t == 60) = true := by simp [h3]
    clear h3
    go_enter Tryz.func20, Tryz.ntmps20
    go_wp2
    go_ret
    exact ⟨by simp [checkM, HT.out], (Below.refl _ _).alloc (Nat.le_refl _) _⟩
  have h3' : (t == 60) = false := by simpa using h3
  by_cases h4 : 65536 < dn
  · have h4' : (65536 : Int) < (dn : Int) := by omega
    go_enter Tryz.func20, Tryz.ntmps20
    go_wp2
    go_ret
    exact ⟨by simp [checkM, h1, h2, h3, HD.out, h4], (Below.refl _ _).alloc (Nat.le_refl _) _⟩
  have h4' : ¬ (65536 : Int) < (dn : Int) := by omega
  have hbel : ∀ o, Below w.heap.size w (w.alloc o) := fun o => (Below.refl _ _).alloc (Nat.le_refl _) o
  have hcR : ∀ o, Rd (w.alloc o) B 1 C cn (cuts.map iv) := fun o => hc.belowMono (hbel o) hB
  by_cases h5 : riseB 0 dn cuts = true
  · have HR := Lib.hid h5
    have hfin : checkM ⟨t, data, cuts, at_⟩ = if 224 < longM 0 0 dn cuts then 4 else 0 := by simp [checkM, h1, h2, h3, HD.out, h4, h5]
    have HF := Lib.hid hfin
    clear hfin
    by_cases h6 : 224 < longM 0 0 dn cuts
    all_goals
      have HF' : Hid (checkM ⟨t, data, cuts, at_⟩ = _) := Lib.hid (HF.out.trans (by first | rw [if_pos h6] | rw [if_neg h6]))
      clear HF
      go_enter Tryz.func20, Tryz.ntmps20
      go_wp2_with (first | (go_at_call 35; refine (rise_any (hcR _) c2).mono ?_; rintro e w' ⟨rfl, rfl⟩) | (go_at_call 36; refine (longest_any (hcR _) c2 ⟨by omega, by omega⟩ HR.out).mono ?_; rintro e w' ⟨rfl, rfl⟩))
      go_ret
      exact ⟨by rw [HF'.out]; rfl, hbel _⟩
  · have h5' : riseB 0 dn cuts = false := by simpa using h5
    have hfin : checkM ⟨t, data, cuts, at_⟩ = 6 := by simp [checkM, h1, h2, h3, HD.out, h4, h5']
    have HF := Lib.hid hfin
    clear hfin h5
    go_enter Tryz.func20, Tryz.ntmps20
    go_wp2_with (go_at_call 35; refine (rise_any (hcR _) c2).mono ?_; rintro e w' ⟨rfl, rfl⟩)
    go_ret
    exact ⟨by rw [HF.out]; rfl, hbel _⟩
end Go.Proofs.YtllcecnkbndokaaGreatDoor
