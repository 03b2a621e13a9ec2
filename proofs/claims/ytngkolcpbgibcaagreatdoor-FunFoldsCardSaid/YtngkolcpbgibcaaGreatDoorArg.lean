/- Bytes, numbers of two bytes, bytes as a string. No condition. -/
/- Numbers as rows of digits, the lowest first: what they are worth, and when two are one. No program; no condition. -/
/- Decimals in words: what dec.Text and the reference's DecText write, as lists of bytes. No program; no condition. -/
/- An argument that is a slice of integers: how it reads. No condition. -/
import Derived.Test.YtngkolcpbgibcaaGreatDoorProg
import Derived.Test.YtngkolcpbgibcaaGreatDoorEarly
import Derived.Laws.BitsAllLaws
import Derived.Laws.BitsLemmas
import Derived.Lib.ItoaNum
set_option linter.unusedVariables false
set_option linter.unusedSimpArgs false
namespace Go.Proofs.YtngkolcpbgibcaaGreatDoor
open Go.RowKit
def by8 (n : Int) : UInt8 := UInt8.ofNat (n % 256).toNat
def b2 (n : Int) : List UInt8 := [by8 n, by8 (n / 256)]
end Go.Proofs.YtngkolcpbgibcaaGreatDoor
namespace Go.Proofs.YtngkolcpbgibcaaGreatDoor
def dval : List Nat → Nat
  | [] => 0
  | d :: r => d + 10 * dval r
def Digs (l : List Nat) : Prop := ∀ d ∈ l, d < 10
def Neat (l : List Nat) : Prop := ∀ d, l.getLast? = some d → d ≠ 0
theorem dval_append (a b : List Nat) : dval (a ++ b) = dval a + 10 ^ a.length * dval b := by
  induction a with
  | nil => simp [dval]
  | cons x a ih =>
    simp only [List.cons_append, dval, ih, List.length_cons, Nat.pow_succ]; rw [Nat.mul_add, Nat.add_assoc]
    congr 2
    rw [← Nat.mul_assoc, Nat.mul_comm 10]
theorem dval_lt {l : List Nat} (h : Digs l) : dval l < 10 ^ l.length := by
  induction l with
  | nil => simp [dval]
  | cons x l ih =>
    have h1 := h x (List.mem_cons_self ..); have h2 := ih fun d hd => h d (List.mem_cons_of_mem _ hd); simp only [dval, List.length_cons, Nat.pow_succ]; omega
theorem Digs.tail {x : Nat} {l : List Nat} (h : Digs (x :: l)) : Digs l := fun d hd => h d (List.mem_cons_of_mem _ hd)
theorem Digs.append {a b : List Nat} (ha : Digs a) (hb : Digs b) : Digs (a ++ b) := fun d hd => by
  rcases List.mem_append.1 hd with h | h
  · exact ha d h
  · exact hb d h
theorem Digs.take {l : List Nat} (h : Digs l) (k : Nat) : Digs (l.take k) := fun d hd => h d (List.mem_of_mem_take hd)
theorem Digs.drop {l : List Nat} (h : Digs l) (k : Nat) : Digs (l.drop k) := fun d hd => h d (List.mem_of_mem_drop hd)
theorem Neat.tail {x : Nat} {l : List Nat} (h : Neat (x :: l)) : Neat l := fun d hd => h d (by
  cases l with
  | nil => simp at hd
  | cons y l => rw [List.getLast?_cons_cons]; exact hd)
theorem Neat.nil : Neat [] := fun d hd => by simp at hd
theorem Neat.ge {l : List Nat} (h : Neat l) (hne : l ≠ []) : 10 ^ (l.length - 1) ≤ dval l := by
  induction l with
  | nil => exact absurd rfl hne
  | cons x l ih =>
    cases l with
    | nil =>
      have := h x (by simp); simp [dval]; omega
    | cons y l =>
      have h2 := ih h.tail (by simp); simp only [dval, List.length_cons, Nat.add_sub_cancel] at h2 ⊢; rw [Nat.pow_succ]; omega
theorem dval_snoc (l : List Nat) (d : Nat) : dval (l ++ [d]) = dval l + 10 ^ l.length * d := by rw [dval_append]; simp [dval]
def digs (n : Nat) : List Nat := if h : n = 0 then [] else n % 10 :: digs (n / 10)
termination_by n
decreasing_by omega
theorem digs_zero : digs 0 = [] := by rw [digs]; simp
theorem digs_pos {n : Nat} (h : 0 < n) : digs n = n % 10 :: digs (n / 10) := by rw [digs, dif_neg (by omega)]
theorem digs_spec : ∀ (m n : Nat), n ≤ m → dval (digs n) = n ∧ Digs (digs n) ∧ Neat (digs n)
  | 0, n, h => by
    obtain rfl : n = 0 := by omega
    rw [digs_zero]; exact ⟨rfl, by simp [Digs], Neat.nil⟩
  | m + 1, n, h => by
    rcases Nat.eq_zero_or_pos n with rfl | hn
    · rw [digs_zero]; exact ⟨rfl, by simp [Digs], Neat.nil⟩
    · obtain ⟨h1, h2, h3⟩ := digs_spec m (n / 10) (by omega); rw [digs_pos hn]; refine ⟨by simp only [dval, h1]; omega, fun d hd => ?_, fun d hd => ?_⟩
      · rcases List.mem_cons.1 hd with rfl | hd
        · omega
        · exact h2 d hd
      · cases hc : digs (n / 10) with
        | nil =>
          rw [hc] at hd h1; simp at hd; subst hd; simp [dval] at h1; omega
        | cons y r =>
          rw [hc, List.getLast?_cons_cons] at hd; exact h3 d (by rw [hc]; exact hd)
theorem dval_digs (n : Nat) : dval (digs n) = n := (digs_spec n n (Nat.le_refl _)).1
theorem digs_digs (n : Nat) : Digs (digs n) := (digs_spec n n (Nat.le_refl _)).2.1
theorem neat_digs (n : Nat) : Neat (digs n) := (digs_spec n n (Nat.le_refl _)).2.2
theorem digs_len {n k : Nat} : (digs n).length ≤ k ↔ n < 10 ^ k := by
  constructor
  · intro h; have h1 := dval_lt (digs_digs n); rw [dval_digs] at h1; exact Nat.lt_of_lt_of_le h1 (Nat.pow_le_pow_right (by omega) h)
  · intro h
    rcases Nat.eq_zero_or_pos n with rfl | hn
    · rw [digs_zero]; exact Nat.zero_le _
    · have hne : digs n ≠ [] := by rw [digs_pos hn]; simp
      have h1 := (neat_digs n).ge hne; rw [dval_digs] at h1
      have h2 : (digs n).length - 1 < k := by
        rcases Nat.lt_or_ge ((digs n).length - 1) k with h3 | h3
        · exact h3
        · have := Nat.pow_le_pow_right (n := 10) (by omega) h3; omega
      omega
end Go.Proofs.YtngkolcpbgibcaaGreatDoor
namespace Go.Proofs.YtngkolcpbgibcaaGreatDoor
def bt (d : Nat) : UInt8 := UInt8.ofNat (48 + d)
theorem decDigits_digs : ∀ (k n : Nat), n ≤ k → 0 < n → Lib.decDigits n = ((digs n).map bt).reverse
  | 0, n, h, h0 => by omega
  | k + 1, n, h, h0 => by
    rw [Lib.decDigits, digs_pos h0]
    by_cases hn : n < 10
    · rw [dif_pos hn, Nat.mod_eq_of_lt hn, Nat.div_eq_of_lt hn, digs_zero]; rfl
    · rw [dif_neg hn, decDigits_digs k (n / 10) (by omega) (by omega)]; simp [bt]
theorem decDigits_0 : Lib.decDigits 0 = [48] := by rw [Lib.decDigits]; rfl
def padded (n s : Nat) : List Nat := digs n ++ List.replicate (s + 1 - (digs n).length) 0
theorem padded_len (n s : Nat) : s + 1 ≤ (padded n s).length := by simp [padded]; omega
def rb (l : List Nat) (s : Nat) : Nat → List UInt8
  | 0 => []
  | i + 1 => bt (l.getD i 0) :: ((if i = s ∧ 0 < i then [46] else []) ++ rb l s i)
def body (l : List Nat) (s : Nat) : List UInt8 := ((l.drop s).map bt).reverse ++ (if 0 < s then [46] else []) ++ ((l.take s).map bt).reverse
def decTx (m : Int) (s : Nat) : List UInt8 := (if m < 0 then [45] else []) ++ body (padded m.natAbs s) s
theorem prog_pad (n s : Nat) : List.replicate (s + 1 - (Lib.decDigits n).length) 48 ++ Lib.decDigits n = ((padded n s).map bt).reverse := by
  by_cases h : n = 0
  · subst h; rw [decDigits_0, padded, digs_zero]; simp [bt, ← List.replicate_succ']
  · rw [decDigits_digs n n (Nat.le_refl _) (by omega), padded]; simp [bt]
theorem prog_point {l : List Nat} {s : Nat} (h : s + 1 ≤ l.length) (h0 : 0 < s) :
    (((l.map bt).reverse).take (l.length - s) ++ [46] ++ ((l.map bt).reverse).drop (l.length - s)) = body l s := by
  unfold body; rw [if_pos h0, List.take_reverse, List.drop_reverse]; simp [List.length_map, show l.length - (l.length - s) = s from by omega]
theorem prog_whole {l : List Nat} : (l.map bt).reverse = body l 0 := by simp [body]
end Go.Proofs.YtngkolcpbgibcaaGreatDoor
namespace Go.Proofs.YtngkolcpbgibcaaGreatDoor
open Go.RowKit
def IsRow (k : IntKind) (w : World) (a : Option Addr) (len cap : Nat) (zs : List Int) : Prop :=
  (a = none ∧ len = 0 ∧ cap = 0 ∧ zs = []) ∨
  ∃ x, a = some x ∧ len ≤ cap ∧ cap ≤ maxLen ∧ zs.length = cap ∧ (∀ i, i < zs.length → w.cell? (x.add i) = some (.int k (zs.getD i 0))) ∧ ∀ n ∈ zs, (Lit.int k n).wf = true
theorem isRow_rd {k : IntKind} {w : World} {a : Option Addr} {len cap : Nat} {zs : List Int} (h : IsRow k w a len cap zs) :
    len ≤ cap ∧ cap ≤ maxLen ∧ Rd w w.heap.size 1 a len ((zs.take len).map (Value.int k)) ∧ ∀ z ∈ zs.take len, (Lit.int k z).wf = true := by
  rcases h with ⟨rfl, rfl, rfl, rfl⟩ | ⟨x, rfl, hl, hm, hz, hcell, hwf⟩
  · exact ⟨Nat.le_refl _, Nat.zero_le _, Rd.nil _ _ _ _, by simp⟩
  · refine ⟨hl, hm, ⟨by simp; omega, fun hn => ⟨x, rfl, ?_, ?_⟩⟩, fun z hz => hwf z (List.mem_of_mem_take hz)⟩
    · have := hcell 0 (by omega); have hb := World.block_lt_of_cell? w _ this
      rwa [add_block] at hb
    · intro j u hu; rw [List.getElem?_map, List.getElem?_take] at hu
      by_cases hj : j < len
      · rw [if_pos hj] at hu; have := hcell j (by omega); rw [this]; rw [List.getElem?_eq_getElem (by omega)] at hu; simp only [Option.map_some, Option.some.injEq] at hu; subst hu; simp [List.getD, List.getElem?_eq_getElem (show j < zs.length by omega)]
      · rw [if_neg hj] at hu; simp at hu
theorem wf_u8_bd {z : Int} (h : (Lit.int .u8 z).wf = true) : 0 ≤ z ∧ z ≤ 255 := by simpa [Lit.wf, IntKind.min, IntKind.max, IntKind.signed, IntKind.bits] using h
end Go.Proofs.YtngkolcpbgibcaaGreatDoor
