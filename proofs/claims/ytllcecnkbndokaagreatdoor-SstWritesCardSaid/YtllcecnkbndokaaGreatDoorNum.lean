/- le.number by its contract. Condition: eight bytes at most, that read as such. -/
import Derived.Test.YtllcecnkbndokaaGreatDoorTake
import Derived.IntWalk
namespace Go.Proofs.YtllcecnkbndokaaGreatDoor
open Go.RowKit

/-- Bytes as a number, the lower first. -/
def numN : List UInt8 → Nat
  | [] => 0
  | x :: r => x.toNat + 256 * numN r

theorem numN_append (a b : List UInt8) : numN (a ++ b) = numN a + 256 ^ a.length * numN b := by
  induction a with
  | nil => simp [numN]
  | cons x a ih =>
    simp only [List.cons_append, numN, ih, List.length_cons, Nat.pow_succ]
    rw [Nat.mul_add, Nat.add_assoc]
    congr 2
    rw [← Nat.mul_assoc, Nat.mul_comm 256]

theorem numN_lt (a : List UInt8) : numN a < 256 ^ a.length := by
  induction a with
  | nil => simp [numN]
  | cons x a ih =>
    simp only [numN, List.length_cons, Nat.pow_succ]
    have := x.toNat_lt
    omega

theorem pow_bytes (k : Nat) : 256 ^ k = 2 ^ (8 * k) := by
  rw [Nat.pow_mul]

theorem pow_le8 {k : Nat} (h : k ≤ 8) : 256 ^ k ≤ 18446744073709551616 := Nat.pow_le_pow_right (by omega) h

theorem or_shift (a b i : Nat) (ha : a < 2 ^ i) : a ||| b * 2 ^ i = a + 2 ^ i * b := by
  have h := Nat.shiftLeft_add_eq_or_of_lt (i := i) (b := a) ha b
  rw [Nat.shiftLeft_eq] at h
  rw [Nat.or_comm, ← h, Nat.mul_comm, Nat.add_comm]

theorem or_u64 (a b : Nat) (ha : a < 18446744073709551616) (hb : b < 18446744073709551616) (h : a ||| b < 18446744073709551616) : bits .or .u64 (a : Int) (b : Int) = ((a ||| b : Nat) : Int) := by
  show IntKind.u64.wrap ((BitVec.ofInt 64 (a : Int) ||| BitVec.ofInt 64 (b : Int)).toNat : Int) = _
  rw [BitVec.toNat_or, BitVec.ofInt_natCast, BitVec.ofInt_natCast, BitVec.toNat_ofNat, BitVec.toNat_ofNat, Nat.mod_eq_of_lt (by omega), Nat.mod_eq_of_lt (by omega)]
  exact IntWalk.u64_in _ (by omega)

theorem or_step (a b k : Nat) (ha : a < 256 ^ k) (hb : b < 256) (hk : k < 8) : bits .or .u64 (a : Int) (IntKind.u64.wrap ((b : Int) * 2 ^ (8 * k))) = ((a + 256 ^ k * b : Nat) : Int) := by
  have h1 : 256 ^ k * 256 ≤ 18446744073709551616 := by have := pow_le8 (k := k + 1) (by omega); rwa [Nat.pow_succ] at this
  have h2 : 256 ^ k * (b + 1) ≤ 256 ^ k * 256 := Nat.mul_le_mul_left _ (by omega)
  rw [Nat.mul_add, Nat.mul_one] at h2
  have e : ((b : Int) * 2 ^ (8 * k)) = ((b * 2 ^ (8 * k) : Nat) : Int) := by simp
  have e2 : b * 2 ^ (8 * k) = 256 ^ k * b := by rw [← pow_bytes, Nat.mul_comm]
  have ho : a ||| b * 2 ^ (8 * k) = a + 256 ^ k * b := by rw [or_shift _ _ _ (by rw [← pow_bytes]; exact ha), pow_bytes]
  rw [e, IntWalk.u64_in _ (by omega), or_u64 _ _ (by omega) (by omega) (by omega), ho]

theorem ret_u64 {a b : Int} (h : a = b) : Value.int .u64 a = .int .u64 b := by rw [h]

theorem Rd.blen {w : World} {B n : Nat} {A : Option Addr} {l : List UInt8} (h : Rd w B 1 A n (l.map bv)) : l.length = n := by have := h.len; simp at this; exact this

theorem Rd.byteAt {w : World} {B n i : Nat} {A : Option Addr} {l : List UInt8} (h : Rd w B 1 A n (l.map bv)) (hi : i < n) :
    ∃ a x, A = some a ∧ a.block < B ∧ w.cell? (a.add i) = some (.int .u8 (x.toNat : Int)) ∧ l[i]? = some x ∧ l.take (i + 1) = l.take i ++ [x] := by
  obtain ⟨a, u, ha, hb, hu, hc⟩ := h.cell hi
  have hl : i < l.length := by rw [h.blen]; exact hi
  refine ⟨a, l[i], ha, hb, ?_, List.getElem?_eq_getElem hl, (List.take_append_getElem hl).symm⟩
  rw [hc, ← hu]
  simp [List.getElem?_eq_getElem hl, bv]

theorem number_any {w : World} {B n c : Nat} {A : Option Addr} {l : List UInt8} (h : Rd w B 1 A n (l.map bv)) (hn : n ≤ 8) :
    Calls Tryz.prog 68 #[.slice A n c] w fun e w' => e = .returned (.int .u64 (numN l : Nat)) ∧ w = w' := by
  have hl := h.len
  rw [List.length_map, Nat.mul_one] at hl
  have HL := Lib.hid hl
  clear hl
  go_enter Tryz.func68, Tryz.ntmps68
  go_wp2
  go_loop [3, 8] (fun v i => ∃ k : Nat, k ≤ n ∧ i = .int .i64 k ∧ v = .int .u64 (numN (l.take k) : Nat)) (fun _ i => n - (intOf i).toNat)
  case atStart => exact ⟨0, Nat.zero_le _, rfl, rfl⟩
  case round =>
    obtain ⟨k, hk, rfl, rfl⟩ := hrel
    by_cases hkn : k < n
    · obtain ⟨a, x, rfl, hb, hc, hx, ht⟩ := h.byteAt hkn
      have hkn' : (k : Int) < (n : Int) := by omega
      have bx := x.toNat_lt
      have HT := Lib.hid ht
      have HX := Lib.hid hx
      clear ht hx
      go_wp2
      go_round
      case rel =>
        refine ⟨k + 1, by omega, by go_num, ?_⟩
        refine ret_u64 ?_
        have hlk : (l.take k).length = k := by rw [List.length_take, HL.out]; omega
        have hlt := numN_lt (l.take k)
        rw [hlk] at hlt
        rw [or_step _ _ _ hlt bx (by omega), HT.out, numN_append, hlk]
        simp [numN]
      case measure => simp [intOf]; omega
    · go_wp2
      go_ret
      have : l.take k = l := List.take_of_length_le (by rw [HL.out]; omega)
      rw [this]
      exact ⟨rfl, rfl⟩
end Go.Proofs.YtllcecnkbndokaaGreatDoor
