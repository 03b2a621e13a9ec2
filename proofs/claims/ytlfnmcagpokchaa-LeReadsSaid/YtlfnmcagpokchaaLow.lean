/- cashbookref7.Low by its contract. Condition: the bytes read as such. -/
import Derived.Test.YtlfnmcagpokchaaU
namespace Go.Proofs.Ytlfnmcagpokchaa
open Go.RowKit

theorem low_none {w W : World} {n c : Nat} {at_ k e : Int} {A : Option Addr} {l : List UInt8} (hl : l.length = n) (he : tkE at_ k n = e) (h0 : e ≠ 0) (hb : Below w.heap.size w W) :
    Ending.returned (.tuple #[.int .u64 0, .agg #[.slice A n c, .int .i64 at_], .int .i64 e]) = .returned (.tuple #[.int .u64 (numN (tkL l at_ k) : Nat), .agg #[.slice A n c, .int .i64 (tkAt at_ k n)], .int .i64 (tkE at_ k n)]) ∧ Below w.heap.size w W := by
  obtain ⟨h1, h2⟩ := tk_err hl he h0
  rw [h1, h2, he]
  exact ⟨rfl, hb⟩

theorem low_some {w W : World} {n c p k : Nat} {A : Option Addr} {l : List UInt8} (hl : l.length = n) (he : tkE p k n = 0) (hb : Below w.heap.size w W) :
    Ending.returned (.tuple #[.int .u64 (numN ((l.drop p).take k) : Nat), .agg #[.slice A n c, .int .i64 ((p : Int) + (k : Int))], .int .i64 0]) = .returned (.tuple #[.int .u64 (numN (tkL l p k) : Nat), .agg #[.slice A n c, .int .i64 (tkAt p k n)], .int .i64 (tkE p k n)]) ∧ Below w.heap.size w W := by
  have hL : tkL l p k = (l.drop p).take k := by unfold tkL; rw [if_pos (by rw [hl]; exact he)]; simp
  rw [hL, he, show tkAt p k n = (p : Int) + k by unfold tkAt; rw [if_pos he]]
  exact ⟨rfl, hb⟩

theorem or_low (v b k : Nat) (hv : v < 256 ^ k) (hb : b < 256) (hk : k < 8) : bits .or .u64 (IntKind.u64.wrap ((v : Int) * 256)) (b : Int) = ((b + 256 * v : Nat) : Int) := by
  have h1 : 256 ^ k * 256 ≤ 18446744073709551616 := by have := pow_le8 (k := k + 1) (by omega); rwa [Nat.pow_succ] at this
  have ho : v * 256 ||| b = b + 256 * v := by rw [Nat.or_comm]; exact or_shift b v 8 hb
  rw [show ((v : Int) * 256) = ((v * 256 : Nat) : Int) by omega, IntWalk.u64_in _ (by omega), or_u64 _ _ (by omega) (by omega) (by omega), ho]

theorem low_step {l : List UInt8} {p j k : Nat} {x : UInt8} (hx : l[p + j]? = some x) (hjk : j < k) : ((l.drop p).take k).drop j = x :: ((l.drop p).take k).drop (j + 1) := by
  have hlt : p + j < l.length := (List.getElem?_eq_some_iff.1 hx).1
  have hl : j < ((l.drop p).take k).length := by rw [List.length_take, List.length_drop]; omega
  rw [List.drop_eq_getElem_cons hl]
  congr 1
  have e : ((l.drop p).take k)[j]? = some x := by rw [List.getElem?_take, if_pos hjk, List.getElem?_drop, hx]
  rw [List.getElem?_eq_getElem hl] at e
  injection e

set_option maxHeartbeats 2000000 in
theorem low_any {w : World} {B n c k : Nat} {at_ : Int} {A : Option Addr} {l : List UInt8} (h : Rd w B 1 A n (l.map bv)) (hn : n ≤ 1000000000000000000) (hB : B ≤ w.heap.size) (hk1 : 1 ≤ k) (hk8 : k ≤ 8) :
    Calls Try.prog 9 #[.agg #[.slice A n c, .int .i64 at_], .int .i64 k] w fun e w' => e = .returned (.tuple #[.int .u64 (numN (tkL l at_ k) : Nat), .agg #[.slice A n c, .int .i64 (tkAt at_ k n)], .int .i64 (tkE at_ k n)]) ∧ Below w.heap.size w w' := by
  have HL := Lib.hid h.blen
  cases hst : stB at_ n
  · have HF := Lib.hid (show tkE at_ k n = 1 by simp [tkE, hst])
    have HT := Lib.hid hst
    clear hst
    go_enter Try.func9, Try.ntmps9
    go_wp2_with fail
    refine bad_any.mono ?_
    rintro e w1 ⟨rfl, hb1⟩
    rw [HT.out]
    obtain ⟨k1, k2, hb', s1⟩ := two_boxes hb1
    have c0 := k1.cell 0
    have c1 := k1.cell 1
    have d0 := k2.cell 0
    have d1 := k2.cell 1
    have z0 := k2.frozen 0
    have z1 := k2.frozen 1
    go_wp2
    go_region
    all_goals
      go_wp2
      refine bodyPost_ret (v := .tuple #[.int .u64 0, .agg #[.slice A n c, .int .i64 at_], .int .i64 1]) (by simp [results, Try.results9, go_sem, d0, d1]) rfl ?_
      exact low_none HL.out HF.out (by decide) ((hb'.setCell (by simp) _).setCell (by simp) _).drew
  · have h01 : 0 ≤ at_ ∧ at_ ≤ (n : Int) := by simpa [stB] using hst
    obtain ⟨h0, h1⟩ := h01
    obtain ⟨p, rfl⟩ := Int.eq_ofNat_of_zero_le h0
    have HT := Lib.hid hst
    by_cases hsh : (n : Int) - p < k
    · have HF := Lib.hid (show tkE p k n = 5 by unfold tkE; rw [if_neg (not_bad hst (by omega)), if_pos hsh])
      clear hst
      go_enter Try.func9, Try.ntmps9
      go_wp2_with fail
      refine bad_any.mono ?_
      rintro e w1 ⟨rfl, hb1⟩
      rw [HT.out]
      obtain ⟨k1, k2, hb', s1⟩ := two_boxes hb1
      have c0 := k1.cell 0
      have c1 := k1.cell 1
      have d0 := k2.cell 0
      have d1 := k2.cell 1
      have z0 := k2.frozen 0
      have z1 := k2.frozen 1
      go_wp2
      go_region
      all_goals
        go_wp2
        refine bodyPost_ret (v := .tuple #[.int .u64 0, .agg #[.slice A n c, .int .i64 p], .int .i64 5]) (by simp [results, Try.results9, go_sem, d0, d1]) rfl ?_
        exact low_none HL.out HF.out (by decide) ((hb'.setCell (by simp) _).setCell (by simp) _).drew
    · have HF := Lib.hid (show tkE p k n = 0 by unfold tkE; rw [if_neg (not_bad hst (by omega)), if_neg hsh])
      clear hst
      have hpk : (p : Int) + (k : Int) ≤ (n : Int) := by omega
      have hr := h.belowMono (two_below w (.cells #[.slice A n c, .int .i64 p] 26) (.cells #[.slice none 0 0, .int .i64 0] 26)) hB
      go_enter Try.func9, Try.ntmps9
      go_wp2_with fail
      refine bad_any.mono ?_
      rintro e w1 ⟨rfl, hb1⟩
      rw [HT.out]
      obtain ⟨k1, k2, hb', s1⟩ := two_boxes hb1
      have hr1 := hr.belowMono hb1 (by simp; omega)
      have c0 := k1.cell 0
      have c1 := k1.cell 1
      have d0 := k2.cell 0
      have d1 := k2.cell 1
      have z0 := k2.frozen 0
      have z1 := k2.frozen 1
      clear hr
      go_wp2
      go_loop [7, 8] (fun v i => ∃ (j q : Nat) (z : Int), j ≤ k ∧ i = .int .i64 z ∧ v = .int .u64 q ∧ Hid (z = (j : Int) - 1) ∧ Hid (q = numN (((l.drop p).take k).drop j))) (fun _ i => (intOf i + 1).toNat)
      case atStart => exact ⟨k, 0, (k : Int) - 1, Nat.le_refl _, rfl, rfl, Lib.hid rfl, Lib.hid (by rw [List.drop_eq_nil_of_le (by rw [List.length_take]; omega)]; rfl)⟩
      case round =>
        obtain ⟨j, q, z, hj, rfl, rfl, HZ, HQ⟩ := hrel
        rcases Nat.eq_zero_or_pos j with hj0 | hj0
        · subst hj0
          obtain rfl : z = -1 := by have := HZ.out; omega
          have hq : q = numN ((l.drop p).take k) := by have := HQ.out; rwa [List.drop_zero] at this
          subst hq
          have hw : IntKind.i64.wrap ((p : Int) + (k : Int)) = (p : Int) + (k : Int) := IntWalk.i64_in _ (by omega)
          go_wp2
          go_region
          all_goals
            go_wp2
            refine bodyPost_ret (v := .tuple #[.int .u64 (numN ((l.drop p).take k) : Nat), .agg #[.slice A n c, .int .i64 ((p : Int) + (k : Int))], .int .i64 0]) (by simp [results, Try.results9, go_sem, d0, d1]) rfl ?_
            exact low_some HL.out HF.out ((hb'.setCell (by simp) _).setCell (by simp) _).drew
        · obtain ⟨j, rfl⟩ : ∃ j', j = j' + 1 := ⟨j - 1, by omega⟩
          obtain rfl : z = (j : Int) := by have := HZ.out; omega
          obtain ⟨a, x, rfl, hb, hc, hx, -⟩ := hr1.byteAt (i := p + j) (by omega)
          have hpj : (p : Int) + (j : Int) < (n : Int) := by omega
          have bx := x.toNat_lt
          have HX := Lib.hid hx
          clear hx
          go_wp2
          go_round
          case rel =>
            have hq := numN_lt (((l.drop p).take k).drop (j + 1))
            have hlen : (((l.drop p).take k).drop (j + 1)).length = k - (j + 1) := by rw [List.length_drop, List.length_take, List.length_drop, HL.out]; omega
            rw [← HQ.out, hlen] at hq
            exact ⟨j, x.toNat + 256 * q, _, by omega, rfl, ret_u64 (or_low q x.toNat _ hq bx (by omega)), Lib.hid rfl, Lib.hid (by rw [low_step HX.out (by omega), numN, HQ.out])⟩
          case measure => simp [intOf]
end Go.Proofs.Ytlfnmcagpokchaa
