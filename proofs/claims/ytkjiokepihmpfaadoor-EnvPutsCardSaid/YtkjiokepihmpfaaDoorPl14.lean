/- Places, slots, rows of slots, told plainly: which place is ahead, where a place stands in a row, the row with a value put. No condition. -/
import Derived.Test.YtkjiokepihmpfaaDoorV5
import Derived.Test.YtkjiokepihmpfaaDoorGs
import Derived.Test.YtkjiokepihmpfaaDoorDr
set_option linter.unusedVariables false
set_option linter.unusedSimpArgs false
namespace Go.Proofs.YtkjiokepihmpfaaDoor
open Go.RowKit

structure Pl where
  s : Int
  r : Int
  c : Int
structure Va where
  k : Int
  m : Int
  d : Int
  t : ByteArray
  b : Bool
  e : Int
structure Sl where
  p : Pl
  v : Va
theorem Pl.ext' {a b : Pl} (h1 : a.s = b.s) (h2 : a.r = b.r) (h3 : a.c = b.c) : a = b := by cases a; cases b; simp_all
theorem Va.ext' {a b : Va} (h1 : a.k = b.k) (h2 : a.m = b.m) (h3 : a.d = b.d) (h4 : a.t = b.t) (h5 : a.b = b.b) (h6 : a.e = b.e) : a = b := by cases a; cases b; simp_all
def eqP (a b : Pl) : Bool := decide (a.s = b.s ∧ a.r = b.r ∧ a.c = b.c)
def eqV (a b : Va) : Bool := sameB a.k a.m a.d a.t a.b a.e b.k b.m b.d b.t b.b b.e
theorem eqP_iff {a b : Pl} : eqP a b = true ↔ a = b := by
  unfold eqP
  rw [decide_eq_true_iff]
  exact ⟨fun h => Pl.ext' h.1 h.2.1 h.2.2, fun h => by subst h; exact ⟨rfl, rfl, rfl⟩⟩
theorem eqV_iff {a b : Va} : eqV a b = true ↔ a = b := by
  unfold eqV sameB
  rw [decide_eq_true_iff]
  exact ⟨fun h => Va.ext' h.1 h.2.1 h.2.2.1 h.2.2.2.1 h.2.2.2.2.1 h.2.2.2.2.2, fun h => by subst h; exact ⟨rfl, rfl, rfl, rfl, rfl, rfl⟩⟩
/-- Is a ahead of b? -/
def lsP (a b : Pl) : Bool := decide (a.s < b.s ∨ a.s = b.s ∧ (a.r < b.r ∨ a.r = b.r ∧ a.c < b.c))
theorem lsP_iff {a b : Pl} : lsP a b = true ↔ (a.s < b.s ∨ a.s = b.s ∧ (a.r < b.r ∨ a.r = b.r ∧ a.c < b.c)) := by unfold lsP; exact decide_eq_true_iff
theorem lsP_no {a b : Pl} : lsP a b = false ↔ ¬ (a.s < b.s ∨ a.s = b.s ∧ (a.r < b.r ∨ a.r = b.r ∧ a.c < b.c)) := by unfold lsP; exact decide_eq_false_iff_not
theorem lsP_trans {a b c : Pl} (h : lsP a b = true) (h' : lsP b c = true) : lsP a c = true := by
  rw [lsP_iff] at *
  omega
theorem lsP_irr (a : Pl) : lsP a a = false := by
  rw [lsP_no]
  omega
theorem lsP_three {a b : Pl} (h : lsP a b = false) (h' : lsP b a = false) : a = b := by
  rw [lsP_no] at h h'
  exact Pl.ext' (by omega) (by omega) (by omega)
theorem lsP_asym {a b : Pl} (h : lsP a b = true) : lsP b a = false := by
  rw [lsP_iff] at h
  rw [lsP_no]
  omega
/-- What three comparisons, the first one that is not 0, tell. -/
def or3 (x y z : Int) : Int := if x ≠ 0 then x else if y ≠ 0 then y else z
def cm (x y : Int) : Int := if x < y then -1 else if x > y then 1 else 0
theorem or3_ls (a b : Pl) : decide (or3 (cm a.s b.s) (cm a.r b.r) (cm a.c b.c) < 0) = lsP a b := by
  unfold lsP or3 cm
  congr 1
  apply propext
  split <;> (try split) <;> (try split) <;> (try split) <;> (try split) <;> (try split) <;> omega
/-- A row in order. -/
def Up (L : List Sl) : Prop := ∀ (i j : Nat) (x y : Sl), i < j → L[i]? = some x → L[j]? = some y → lsP x.p y.p = true
/-- How many stand ahead of a place. -/
def kth (p : Pl) (L : List Sl) : Nat := (L.takeWhile fun x => lsP x.p p).length
theorem kth_le (p : Pl) (L : List Sl) : kth p L ≤ L.length := (List.takeWhile_sublist _).length_le
theorem kth_at {p : Pl} : ∀ {L : List Sl} {k : Nat}, k ≤ L.length → (∀ i x, i < k → L[i]? = some x → lsP x.p p = true) → (∀ x, L[k]? = some x → lsP x.p p = false) → kth p L = k
  | [], k, h, _, _ => by
    obtain rfl : k = 0 := by simpa using h
    rfl
  | x :: L, 0, _, _, h => by
    have := h x rfl
    unfold kth
    rw [List.takeWhile_cons, this]
    rfl
  | x :: L, k + 1, hk, h1, h2 => by
    have h0 := h1 0 x (by omega) rfl
    have := kth_at (p := p) (L := L) (k := k) (by simpa using hk) (fun i y hi hy => h1 (i + 1) y (by omega) (by simpa using hy)) (fun y hy => h2 y (by simpa using hy))
    unfold kth at *
    rw [List.takeWhile_cons, h0]
    simp only [if_true, List.length_cons, this]
theorem kth_less {p : Pl} {L : List Sl} {i : Nat} {x : Sl} (hi : i < kth p L) (hx : L[i]? = some x) : lsP x.p p = true := by
  have h1 : (L.takeWhile fun x => lsP x.p p)[i]? = some x := by
    have hp : L.takeWhile (fun x => lsP x.p p) <+: L := List.takeWhile_prefix _
    obtain ⟨t, ht⟩ := hp
    rw [← ht, List.getElem?_append_left hi] at hx
    exact hx
  have := List.all_takeWhile (p := fun x : Sl => lsP x.p p) (l := L)
  rw [List.all_eq_true] at this
  exact this x (List.mem_of_getElem? h1)
theorem kth_stop {p : Pl} {L : List Sl} {x : Sl} (hx : L[kth p L]? = some x) : lsP x.p p = false := by
  induction L with
  | nil => simp at hx
  | cons y L ih =>
    by_cases h : lsP y.p p = true
    · have e : kth p (y :: L) = kth p L + 1 := by unfold kth; rw [List.takeWhile_cons, h]; simp
      rw [e] at hx
      exact ih (by simpa using hx)
    · rw [Bool.not_eq_true] at h
      have e : kth p (y :: L) = 0 := by unfold kth; rw [List.takeWhile_cons, h]; simp
      rw [e] at hx
      simp only [List.getElem?_cons_zero, Option.some.injEq] at hx
      subst hx
      exact h
/-- Does a place's own slot stand there? -/
def hasP (p : Pl) (L : List Sl) : Bool := match L[kth p L]? with
  | some x => eqP x.p p
  | none => false
def gdP (p : Pl) (n : Int) : Bool := decide (0 ≤ p.s ∧ p.s < n) && gdB p.r p.c
def blV : Va := ⟨0, 0, 0, ⟨#[]⟩, false, 0⟩
def reV : Va := ⟨4, 0, 0, ⟨#[]⟩, false, 23⟩
def getL (n : Int) (L : List Sl) (p : Pl) : Va := if gdP p n then (if hasP p L then (match L[kth p L]? with | some x => x.v | none => blV) else blV) else reV
/-- The row with a value put. -/
def putR (L : List Sl) (p : Pl) (v : Va) : List Sl := L.take (kth p L) ++ ((if v.k = 0 then [] else [⟨p, v⟩]) ++ L.drop (if hasP p L then kth p L + 1 else kth p L))
def ckW (v : Va) : Int := ckV v.k v.m v.d v.t v.b v.e
def putL (n : Int) (L : List Sl) (p : Pl) (v : Va) : List Sl := if gdP p n ∧ ckW v = 0 then putR L p v else L
/-- Cells. -/
def plc (p : Pl) : List Value := [.int .i64 p.s, .int .i64 p.r, .int .i64 p.c]
def vac (v : Va) : List Value := [.int .i64 v.k, .int .i64 v.m, .int .i64 v.d, .string v.t, .bool v.b, .int .i64 v.e]
def slc (x : Sl) : List Value := plc x.p ++ vac x.v
def rwc (L : List Sl) : List Value := L.flatMap slc
def enc (n : Int) (v u : Value) : List Value := [.int .i64 n, v, u]
theorem slc_len (x : Sl) : (slc x).length = 9 := rfl
theorem rwc_len : ∀ L : List Sl, (rwc L).length = L.length * 9
  | [] => rfl
  | x :: L => by
    have := rwc_len L
    unfold rwc at *
    rw [List.flatMap_cons, List.length_append, this, slc_len, List.length_cons]
    omega
theorem rwc_get : ∀ {L : List Sl} {i : Nat} {x : Sl}, L[i]? = some x → ∀ {j : Nat} {u : Value}, (slc x)[j]? = some u → (rwc L)[i * 9 + j]? = some u
  | [], i, x, h, _, _, _ => by simp at h
  | y :: L, 0, x, h, j, u, hj => by
    simp only [List.getElem?_cons_zero, Option.some.injEq] at h
    subst h
    have hl : j < 9 := by rw [← slc_len y]; exact (List.getElem?_eq_some_iff.1 hj).1
    unfold rwc
    rw [List.flatMap_cons, List.getElem?_append_left (by rw [slc_len]; omega), Nat.zero_mul, Nat.zero_add]
    exact hj
  | y :: L, i + 1, x, h, j, u, hj => by
    have := rwc_get (L := L) (i := i) (x := x) (by simpa using h) hj
    unfold rwc at *
    rw [List.flatMap_cons, List.getElem?_append_right (by rw [slc_len]; omega), slc_len]
    rw [show (i + 1) * 9 + j - 9 = i * 9 + j by omega]
    exact this
theorem rwc_app (L M : List Sl) : rwc (L ++ M) = rwc L ++ rwc M := by unfold rwc; exact List.flatMap_append
theorem rwc_take (L : List Sl) (k : Nat) : rwc (L.take k) = (rwc L).take (k * 9) := by
  induction L generalizing k with
  | nil => simp [rwc]
  | cons x L ih =>
    cases k with
    | zero => simp [rwc]
    | succ k =>
      have := ih k
      unfold rwc at *
      rw [List.take_succ_cons, List.flatMap_cons, List.flatMap_cons, List.take_append, this, slc_len, List.take_of_length_le (l := slc x) (by rw [slc_len]; omega)]
      rw [show (k + 1) * 9 - 9 = k * 9 by omega]
theorem rwc_drop (L : List Sl) (k : Nat) : rwc (L.drop k) = (rwc L).drop (k * 9) := by
  induction L generalizing k with
  | nil => simp [rwc]
  | cons x L ih =>
    cases k with
    | zero => simp [rwc]
    | succ k =>
      have := ih k
      unfold rwc at *
      rw [List.drop_succ_cons, List.flatMap_cons, List.drop_append, this, slc_len, show List.drop ((k + 1) * 9) (slc x) = [] from List.drop_eq_nil_of_le (by rw [slc_len]; omega), List.nil_append]
      rw [show (k + 1) * 9 - 9 = k * 9 by omega]
theorem slc_one : ∀ (x : Sl) (u : Value), u ∈ slc x → u.oneCell' = true := by
  intro x u hu
  simp only [slc, plc, vac, List.mem_append, List.mem_cons, List.not_mem_nil, or_false] at hu
  rcases hu with (rfl | rfl | rfl) | (rfl | rfl | rfl | rfl | rfl | rfl) <;> rfl
theorem rwc_one (L : List Sl) (u : Value) (hu : u ∈ rwc L) : u.oneCell' = true := by
  obtain ⟨x, -, hx⟩ := List.mem_flatMap.1 hu
  exact slc_one x u hx
theorem plc_one (p : Pl) : ∀ u ∈ plc p, u.oneCell' = true := by
  intro u hu
  simp only [plc, List.mem_cons, List.not_mem_nil, or_false] at hu
  rcases hu with rfl | rfl | rfl <;> rfl
theorem vac_one (v : Va) : ∀ u ∈ vac v, u.oneCell' = true := by
  intro u hu
  simp only [vac, List.mem_cons, List.not_mem_nil, or_false] at hu
  rcases hu with rfl | rfl | rfl | rfl | rfl | rfl <;> rfl
theorem enc_one {n : Int} {A B : Option Addr} {a b c d : Nat} : ∀ u ∈ enc n (.slice A a b) (.slice B c d), u.oneCell' = true := by
  intro u hu
  simp only [enc, List.mem_cons, List.not_mem_nil, or_false] at hu
  rcases hu with rfl | rfl | rfl <;> rfl
theorem rtPl : RowT 40 3 := ⟨⟨_, Tryd.underlying40, rfl⟩, by kernel_rfl⟩
theorem rtSl : RowT 44 9 := ⟨⟨_, Tryd.underlying44, rfl⟩, by kernel_rfl⟩
theorem rtEnv : RowT 28 3 := ⟨⟨_, Tryd.underlying28, rfl⟩, by kernel_rfl⟩
theorem rtCell : RowT 38 2 := ⟨⟨_, Tryd.underlying38, rfl⟩, by kernel_rfl⟩
theorem rtVa : RowT 32 6 := rtVal
end Go.Proofs.YtkjiokepihmpfaaDoor
