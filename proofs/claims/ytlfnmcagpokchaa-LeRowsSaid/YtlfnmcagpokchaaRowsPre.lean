/- What LeRows writes and reads, plainly; its calls by contracts of their own. Condition: the bytes read as such. -/
import Derived.Test.YtlfnmcagpokchaaWritesPre
namespace Go.Proofs.Ytlfnmcagpokchaa
open Go.RowKit

def uv (z : Nat) : Value := .int .u32 (z : Int)

theorem Rd.uAt {w : World} {B n i : Nat} {A : Option Addr} {zs : List Nat} (h : Rd w B 1 A n (zs.map uv)) (hi : i < n) :
    ∃ (a : Addr) (z : Nat), A = some a ∧ a.block < B ∧ w.cell? (a.add i) = some (.int .u32 (z : Int)) ∧ zs[i]? = some z := by
  obtain ⟨a, u, ha, hb, hu, hc⟩ := h.cell hi
  have hl : i < zs.length := by have := h.len; simp at this; omega
  refine ⟨a, zs[i], ha, hb, ?_, List.getElem?_eq_getElem hl⟩
  rw [hc, ← hu]
  simp [List.getElem?_eq_getElem hl, uv]

/-- A number in as many bytes as its width says. -/
def rowB (z : Nat) (d : UInt8) : List UInt8 := if d.toNat % 3 = 0 then lowB (z % 65536) 2 else if d.toNat % 3 = 1 then lowB z 4 else lowB (two64 (-(z : Int))) 8
def rowsB (P : List (Nat × UInt8)) : List UInt8 := P.flatMap fun x => rowB x.1 x.2

theorem rowB_len (z : Nat) (d : UInt8) : (rowB z d).length ≤ 8 := by
  unfold rowB
  split
  · rw [lowB_len]; omega
  · split <;> rw [lowB_len] <;> omega

theorem rowsB_len (P : List (Nat × UInt8)) : (rowsB P).length ≤ 8 * P.length := by
  induction P with
  | nil => simp [rowsB]
  | cons x P ih =>
    have := rowB_len x.1 x.2
    simp only [rowsB, List.flatMap_cons, List.length_append, List.length_cons] at ih ⊢
    omega

theorem rowsB_step {P : List (Nat × UInt8)} {k : Nat} {z : Nat} {d : UInt8} (h : P[k]? = some (z, d)) : rowsB (P.take (k + 1)) = rowsB (P.take k) ++ rowB z d := by
  rw [List.take_add_one, h]
  simp [rowsB]

theorem rowsB_mid {P : List (Nat × UInt8)} {k : Nat} {z : Nat} {d : UInt8} (h : P[k]? = some (z, d)) : rowsB P = rowsB (P.take k) ++ rowB z d ++ rowsB (P.drop (k + 1)) := by
  rw [← rowsB_step h]
  unfold rowsB
  rw [← List.flatMap_append, List.take_append_drop]

theorem mid_num {pre post : List UInt8} {v s : Nat} {L : List UInt8} (hL : L = pre ++ lowB v s ++ post) :
    tkE pre.length s L.length = 0 ∧ tkAt pre.length s L.length = (pre.length : Int) + s ∧ tkL L pre.length s = lowB v s := by
  have hlen : L.length = pre.length + s + post.length := by rw [hL, List.length_append, List.length_append, lowB_len]
  obtain ⟨e1, e2⟩ := tk_fit (at_ := pre.length) (k := s) (n := L.length) (by omega) (by omega) (by omega)
  refine ⟨e1, e2, ?_⟩
  rw [tkL_fit (by omega) (by omega) (by omega), Int.toNat_natCast, Int.toNat_natCast, hL, List.append_assoc, List.drop_left]
  rw [List.take_append_of_le_length (by rw [lowB_len]; exact Nat.le_refl _)]
  exact List.take_of_length_le (by rw [lowB_len]; exact Nat.le_refl _)

section
variable {w : World} {B n c : Nat} {A : Option Addr} {l pre post : List UInt8}
theorem mid16 {q : Nat} (h : Rd w B 1 A n (l.map bv)) (hnc : n ≤ c) (hn : n ≤ 1000) (hB : B ≤ w.heap.size) (hl : l = pre ++ lowB q 2 ++ post) (hq : q < 65536) :
    Calls Try.prog 10 #[.agg #[.slice A n c, .int .i64 pre.length]] w fun e w' => e = .returned (.tuple #[.int .i64 q, .agg #[.slice A n c, .int .i64 ((pre.length : Int) + 2)], .int .i64 0]) ∧ Below w.heap.size w w' := by
  have hll := h.blen
  have H := u16_any (at_ := pre.length) h hnc (by omega) hB
  obtain ⟨e1, e2, e3⟩ := mid_num hl
  have e4 : numN (tkL l pre.length (2 : Int)) = q := (congrArg numN e3).trans ((numN_lowB q 2).trans (Nat.mod_eq_of_lt (by omega)))
  rw [hll] at e1 e2
  rw [e4, show tkAt pre.length (2 : Int) n = (pre.length : Int) + 2 from e2, show tkE pre.length (2 : Int) n = 0 from e1] at H
  exact H
theorem mid32 {q : Nat} (h : Rd w B 1 A n (l.map bv)) (hnc : n ≤ c) (hn : n ≤ 1000) (hB : B ≤ w.heap.size) (hl : l = pre ++ lowB q 4 ++ post) (hq : q < 4294967296) :
    Calls Try.prog 11 #[.agg #[.slice A n c, .int .i64 pre.length]] w fun e w' => e = .returned (.tuple #[.int .i64 q, .agg #[.slice A n c, .int .i64 ((pre.length : Int) + 4)], .int .i64 0]) ∧ Below w.heap.size w w' := by
  have hll := h.blen
  have H := u32_any (at_ := pre.length) h hnc (by omega) hB
  obtain ⟨e1, e2, e3⟩ := mid_num hl
  have e4 : numN (tkL l pre.length (4 : Int)) = q := (congrArg numN e3).trans ((numN_lowB q 4).trans (Nat.mod_eq_of_lt (by omega)))
  rw [hll] at e1 e2
  rw [e4, show tkAt pre.length (4 : Int) n = (pre.length : Int) + 4 from e2, show tkE pre.length (4 : Int) n = 0 from e1] at H
  exact H
theorem mid64 {k : Int} (h : Rd w B 1 A n (l.map bv)) (hnc : n ≤ c) (hn : n ≤ 1000) (hB : B ≤ w.heap.size) (hl : l = pre ++ lowB (two64 k) 8 ++ post) (h0 : -9223372036854775808 ≤ k) (h1 : k ≤ 9223372036854775807) :
    Calls Try.prog 12 #[.agg #[.slice A n c, .int .i64 pre.length]] w fun e w' => e = .returned (.tuple #[.int .i64 k, .agg #[.slice A n c, .int .i64 ((pre.length : Int) + 8)], .int .i64 0]) ∧ Below w.heap.size w w' := by
  have hll := h.blen
  have H := i64_any (at_ := pre.length) h hnc (by omega) hB
  obtain ⟨e1, e2, e3⟩ := mid_num hl
  have e4 : numN (tkL l pre.length (8 : Int)) = two64 k := (congrArg numN e3).trans ((numN_lowB _ 8).trans (Nat.mod_eq_of_lt (two64_lt k)))
  rw [hll] at e1 e2
  rw [e4, two64_back h0 h1, show tkAt pre.length (8 : Int) n = (pre.length : Int) + 8 from e2, show tkE pre.length (8 : Int) n = 0 from e1] at H
  exact H
end
end Go.Proofs.Ytlfnmcagpokchaa
