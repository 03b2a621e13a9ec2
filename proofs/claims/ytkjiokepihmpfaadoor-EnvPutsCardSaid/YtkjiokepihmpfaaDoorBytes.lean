/- Bytes, numbers of two bytes, bytes as a string. No condition. -/
import Derived.Test.YtkjiokepihmpfaaDoorProg
import Derived.Test.YtkjiokepihmpfaaDoorMem
import Derived.Laws.BitsAllLaws
import Derived.Laws.BitsLemmas
set_option linter.unusedVariables false
set_option linter.unusedSimpArgs false
namespace Go.Proofs.YtkjiokepihmpfaaDoor
open Go.RowKit

/-- A byte in its cell. -/
def bv (c : UInt8) : Value := .int .u8 (c.toNat : Int)
/-- Two bytes as a number, the lower first. -/
def le2 (a b : UInt8) : Int := (a.toNat + 256 * b.toNat : Nat)

theorem wrap_byte (x : UInt8) : IntKind.i64.wrap (x.toNat : Int) = (x.toNat : Int) := by
  have := x.toNat_lt
  exact IntWalk.i64_in _ (by omega)

theorem le2_bd (a b : UInt8) : 0 ≤ le2 a b ∧ le2 a b < 65536 := by
  unfold le2
  have := a.toNat_lt; have := b.toNat_lt
  omega

theorem or_nat (a b : Nat) (ha : a < 256) : a ||| b * 256 = a + 256 * b := by
  have h := Nat.shiftLeft_add_eq_or_of_lt (i := 8) (b := a) (by omega) b
  rw [Nat.shiftLeft_eq] at h
  rw [Nat.or_comm, show b * 256 = b * 2 ^ 8 from rfl, ← h]
  omega

theorem or_le2 (a b : UInt8) : bits .or .i64 (a.toNat : Int) ((b.toNat : Int) * 256) = le2 a b := by
  have ha := a.toNat_lt
  have hb := b.toNat_lt
  have e : ((b.toNat : Int) * 256) = ((b.toNat * 256 : Nat) : Int) := by omega
  rw [e]
  show IntKind.i64.wrap ((BitVec.ofInt 64 (a.toNat : Int) ||| BitVec.ofInt 64 ((b.toNat * 256 : Nat) : Int)).toNat : Int) = _
  rw [BitVec.toNat_or, BitVec.ofInt_natCast, BitVec.ofInt_natCast, BitVec.toNat_ofNat, BitVec.toNat_ofNat, Nat.mod_eq_of_lt (by omega), Nat.mod_eq_of_lt (by omega), or_nat _ _ ha]
  unfold le2
  exact IntWalk.i64_in _ (by omega)

/-- The byte that stands for n's lowest eight bits. -/
def by8 (n : Int) : UInt8 := UInt8.ofNat (n % 256).toNat
def b2 (n : Int) : List UInt8 := [by8 n, by8 (n / 256)]

theorem bv_by8 (n : Int) : bv (by8 n) = .int .u8 (n % 256) := by
  unfold bv by8
  have h0 := Int.emod_nonneg n (show (256 : Int) ≠ 0 by omega)
  have h1 := Int.emod_lt_of_pos n (show (0 : Int) < 256 by omega)
  rw [UInt8.toNat_ofNat', Nat.mod_eq_of_lt (by omega)]
  congr 1
  omega

theorem b2_map (k : Int) (hk : 0 ≤ k ∧ k < 65536) : (b2 k).map bv = [.int .u8 (k % 256), .int .u8 (k / 256)] := by
  simp only [b2, List.map_cons, List.map_nil, bv_by8]
  rw [show k / 256 % 256 = k / 256 by omega]

theorem bv_one (l : List UInt8) : ∀ u ∈ l.map bv, u.oneCell' = true := by
  intro u hu
  obtain ⟨c, _, rfl⟩ := List.mem_map.1 hu
  rfl

theorem bytesRow : ElemRow Tryd.prog 22 5 (.int .u8 0) 1 1 := by
  obtain ⟨i, hi, h0, h1, h2⟩ := info_parts (P := Tryd.prog) (e := 5) (z := .int .u8 0) (size := 1) (bytes := 1) (by kernel_rfl)
  exact ⟨Tryd.underlying22, ⟨i, hi, h0, h1, h2⟩, rfl, by omega⟩

/-- Bytes as a string. -/
def strOf (l : List UInt8) : ByteArray := ⟨l.toArray⟩
theorem strOf_list (l : List UInt8) : (strOf l).toList = l := by
  rw [ByteArray.toList_eq]
  rfl
theorem strOf_eq (l l' : List UInt8) : ((strOf l).toList == (strOf l').toList) = decide (l = l') := by
  rw [strOf_list, strOf_list, Bool.eq_iff_iff]
  simp

theorem run_str {w : World} {B n c : Nat} {A : Option Addr} {l : List UInt8} (h : Rd w B 1 A n (l.map bv)) :
    (convert 22 9 (.slice A n c)).run Tryd.prog w = .ok (.string (strOf l)) w := by
  rw [run_convert_bytes_string w _ _ 5 _ n c Tryd.underlying22 Tryd.underlying5 Tryd.underlying9]
  cases A with
  | none =>
    have hl : l = [] := by
      refine List.eq_nil_of_length_eq_zero ?_
      rcases Nat.eq_zero_or_pos n with h0 | h0
      · subst h0; simpa using h.len
      · obtain ⟨a, ha, _⟩ := h.at_ h0; cases ha
    subst hl
    simp [Conv.bytesToString]
    rfl
  | some a =>
    have hcell : ∀ j u, (l.map bv)[j]? = some u → w.cell? (a.add j) = some u := by
      intro j u hu
      have hl : j < (l.map bv).length := (List.getElem?_eq_some_iff.1 hu).1
      obtain ⟨a', ha, _, hc⟩ := h.at_ (by have := h.len; omega)
      injection ha with ha
      subst ha
      exact hc j u hu
    have hn : n = l.length := by have := h.len; simp at this; omega
    have hload := run_loadCells_list (P := Tryd.prog) w a (l.map bv) hcell
    have hmap : l.map bv = (l.map fun c => (c.toNat : Int)).map (Value.int .u8) := by rw [List.map_map]; rfl
    rw [hmap] at hload
    rw [run_bytesToString w a n c (l.map fun c => (c.toNat : Int)) (by rw [hn]; simpa using hload), foldl_push_bytes]
    congr 2
    simp only [strOf, ByteArray.empty, ByteArray.emptyWithCapacity, ByteArray.mk.injEq]
    refine Array.toList_inj.1 ?_
    simp only [List.map_map, Array.toList_append]
    show [] ++ List.map _ l = l
    rw [List.nil_append]
    conv => rhs; rw [← List.map_id l]
    exact List.map_congr_left fun c _ => by simp

end Go.Proofs.YtkjiokepihmpfaaDoor
