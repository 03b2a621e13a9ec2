/- Rows of digits in memory; the reference's Norm, big by their contracts. Condition: numbers within 64 bits. -/
import Derived.Test.YtgepipapppdhfaaGreatDoorW1
import Derived.Test.YtgepipapppdhfaaGreatDoorDigOps
namespace Go.Proofs.YtgepipapppdhfaaGreatDoor
open Go.RowKit

/-- A digit in its cell. -/
def iv (d : Nat) : Value := .int .i64 (d : Int)
def dcs (l : List Nat) : List Value := l.map iv
theorem dcs_append (a b : List Nat) : dcs (a ++ b) = dcs a ++ dcs b := List.map_append
theorem dcs_one (l : List Nat) : ∀ u ∈ dcs l, u.oneCell' = true := by
  intro u hu
  obtain ⟨d, _, rfl⟩ := List.mem_map.1 hu
  rfl
theorem dcs_len (l : List Nat) : (dcs l).length = l.length := List.length_map ..
theorem rowInts : ElemRow Tryz.prog 49 3 (.int .i64 0) 1 8 := by
  obtain ⟨i, hi, h0, h1, h2⟩ := info_parts (P := Tryz.prog) (e := 3) (z := .int .i64 0) (size := 1) (bytes := 8) (by kernel_rfl)
  exact ⟨Tryz.underlying49, ⟨i, hi, h0, h1, h2⟩, rfl, by omega⟩
theorem Rd.dlen {w : World} {B n : Nat} {A : Option Addr} {l : List Nat} (h : Rd w B 1 A n (dcs l)) : n = l.length := by
  have := h.len
  rw [dcs_len] at this
  omega
theorem own_len {w : World} {base n : Nat} {v : Value} {l : List Nat} (h : w.ownsRow base 3 1 v n (dcs l)) : n = l.length := by
  have := h.1
  rw [dcs_len] at this
  omega
/-- An own row stays where a box of another type is written. -/
theorem own_set {w : World} {base g i k : Nat} {t : TypeId} {v u : Value} {l : List Value} {cs : Array Value} (ho : w.ownsRow base 3 1 v k l) (hk : Bk w g t cs) (hne : 3 ≠ t) : (w.setCell ⟨g, i, none⟩ u).ownsRow base 3 1 v k l :=
  ((Keep.refl (fun j => j = g) w).setCell (p := ⟨g, i, none⟩) (fun _ => rfl) u).own ho fun j hj e => own_ne ho hk hne (e ▸ hj)
/-- An own row of a known form, to read. -/
theorem own_rd {w : World} {base n k c : Nat} {t : TypeId} {A : Option Addr} {l : List Value} (ho : w.ownsRow base t 1 (.slice A n c) k l) : Rd w w.heap.size 1 A k l := by
  obtain ⟨A', c', h, -, -, hr⟩ := own_form ho
  injection h with h1 h2 h3
  subst h1
  exact hr
/-- What is read stays where a box above it is written. -/
theorem Bk.other {w : World} {g g' i : Nat} {t : TypeId} {cs : Array Value} {u : Value} (h : Bk w g t cs) (hne : g ≠ g') : Bk (w.setCell ⟨g', i, none⟩ u) g t cs := by
  unfold Bk at h ⊢
  rw [Below.heap_setCell w ⟨g', i, none⟩ u g hne]
  exact h

theorem big_cat {L : List Nat} {N q : Nat} (h : L ++ digs q = digs N) (hq : 0 < q) : (L ++ [q % 10]) ++ digs (q / 10) = digs N := by
  rw [← h, digs_pos hq]
  simp
theorem digs_20 {N : Nat} (h : N < 18446744073709551616) : (digs N).length ≤ 20 := digs_len.2 (by omega)

set_option maxHeartbeats 1000000 in
theorem big_any {w : World} {m : Int} (h0 : -9223372036854775808 ≤ m) (h1 : m ≤ 9223372036854775807) :
    Calls Tryz.prog 38 #[.int .i64 m] w fun e w' => ∃ A n c, e = .returned (.agg #[.bool (decide (m < 0)), .slice A n c]) ∧ n ≤ c ∧ c ≤ maxLen ∧ Rd w' w'.heap.size 1 A n (dcs (digs m.natAbs)) ∧ Below w.heap.size w w' := by
  obtain ⟨N, hN⟩ : ∃ N, m.natAbs = N := ⟨_, rfl⟩
  have hNb : N ≤ 9223372036854775808 := by omega
  have H20 := Lib.hid (digs_20 (N := N) (by omega))
  have HS : Hid ((m < 0 ∧ IntKind.u64.wrap (-IntKind.u64.wrap m) = (N : Int)) ∨ (¬ m < 0 ∧ m = (N : Int))) := Lib.hid (by
    by_cases h : m < 0
    · exact .inl ⟨h, by rw [IntKind.wrap_u64, IntKind.wrap_u64]; omega⟩
    · exact .inr ⟨h, by omega⟩)
  rw [hN]
  clear hN
  go_enter Tryz.func38, Tryz.ntmps38
  rcases HS.out with ⟨h, hv⟩ | ⟨h, rfl⟩
  · have hd : decide (m < 0) = true := decide_eq_true h
    rw [hd]
    go_wp2
    go_loopw [4] (fun u wr => ∃ (q k : Nat) (v : Value) (L : List Nat), u = .int .u64 q ∧ q ≤ N ∧ wr.ownsRow w.heap.size 3 1 v k (dcs L) ∧ Bk wr w.heap.size 51 #[.bool false, .slice none 0 0] ∧ Bk wr (w.heap.size + 1) 51 #[.bool true, v] ∧ Below w.heap.size w wr ∧ Hid (L ++ digs q = digs N)) (fun u _ => (intOf u).toNat)
    case atStart =>
      have kz := Bk.new (w.alloc (.cells #[.bool false, .slice none 0 0] 51)) 51 #[.bool true, .slice none 0 0]
      simp only [World.size_alloc] at kz
      exact ⟨N, 0, _, [], rfl, Nat.le_refl _, World.ownsRow_nil _ _ _ _, (Bk.new w _ _).alloc _, kz, bel1 _ _ _, Lib.hid rfl⟩
    case round =>
      obtain ⟨q, k, v, L, rfl, hqN, ho, kr, kb, hbel, HL⟩ := hrel
      have hsz := hbel.size
      have hlt := kb.lt
      have c0 := kb.cell 0
      have c1 := kb.cell 1
      by_cases hq : 0 < q
      · have hq' : (0 : Int) < (q : Int) := by omega
        have hkb : k ≤ 20 := by
          have hk := own_len ho
          have h1 := H20.out
          rw [← HL.out, List.length_append] at h1
          omega
        go_wp2_with (at_builtin; refine wpList_app rowInts rfl (.tmp 17) (.tmp 21) rfl rfl rfl (ho.alloc _) (Rd.fresh _ _ 1 1 _ rfl) ?_ ?_ ?_ ?_ ?_)
        · intro u hu; simp at hu; subst hu; rfl
        · unfold maxLen; omega
        · omega
        · simp; omega
        intro v2 w2 o2 g2 b2
        have b2' := hbel.trans (((Below.refl w.heap.size wr).alloc hsz _).trans b2)
        have k2 := g2.bk (ho.alloc _) (kb.alloc _) (by decide)
        have kr2 := g2.bk (ho.alloc _) (kr.alloc _) (by decide)
        have HL2 := Lib.hid (big_cat HL.out hq)
        have o3 : w2.ownsRow w.heap.size 3 1 v2 (k + 1) (dcs (L ++ [q % 10])) := by
          simpa [dcs, iv] using o2
        obtain ⟨A2, c2, rfl, -, -, -⟩ := own_form o3
        have d0 := k2.cell 0
        have d1 := k2.cell 1
        have z1 := k2.frozen 1
        clear o2 b2 ho g2 c0 c1
        go_wp2
        go_roundw
        case rel =>
          refine ⟨q / 10, k + 1, _, _, by go_num, by omega, own_set o3 k2 (by decide), kr2.other (by omega), ?_, b2'.setCell (by simp) _, HL2⟩
          simpa using k2.set_ 1 (.slice A2 (k + 1) c2)
        case measure => simp [intOf]; omega
      · obtain rfl : q = 0 := by omega
        have HE : Hid (L = digs N) := Lib.hid (by have := HL.out; rw [digs_zero, List.append_nil] at this; exact this)
        obtain ⟨A, c, rfl, hnc, hcm, hrd⟩ := own_form ho
        have z0 := kr.frozen 0
        have z1 := kr.frozen 1
        have r0 := kr.cell 0
        have r1 := kr.cell 1
        clear HL
        go_wp2
        refine bodyPost_ret (v := .agg #[.bool true, .slice A k c]) (by simp [results, Tryz.results38, go_sem, r0, r1]) rfl ⟨A, k, c, rfl, hnc, hcm, ?_, (hbel.setCell (by simp) _).setCell (by simp) _⟩
        rw [← HE.out]
        exact own_rd (own_set (own_set ho kr (by decide)) (kr.set_ 0 _) (by decide))
  · have hd : decide ((N : Int) < 0) = false := decide_eq_false h
    rw [hd]
    go_wp2
    go_loopw [4] (fun u wr => ∃ (q k : Nat) (v : Value) (L : List Nat), u = .int .u64 q ∧ q ≤ N ∧ wr.ownsRow w.heap.size 3 1 v k (dcs L) ∧ Bk wr w.heap.size 51 #[.bool false, .slice none 0 0] ∧ Bk wr (w.heap.size + 1) 51 #[.bool false, v] ∧ Below w.heap.size w wr ∧ Hid (L ++ digs q = digs N)) (fun u _ => (intOf u).toNat)
    case atStart =>
      have kz := Bk.new (w.alloc (.cells #[.bool false, .slice none 0 0] 51)) 51 #[.bool false, .slice none 0 0]
      simp only [World.size_alloc] at kz
      exact ⟨N, 0, _, [], rfl, Nat.le_refl _, World.ownsRow_nil _ _ _ _, (Bk.new w _ _).alloc _, kz, bel1 _ _ _, Lib.hid rfl⟩
    case round =>
      obtain ⟨q, k, v, L, rfl, hqN, ho, kr, kb, hbel, HL⟩ := hrel
      have hsz := hbel.size
      have hlt := kb.lt
      have c0 := kb.cell 0
      have c1 := kb.cell 1
      by_cases hq : 0 < q
      · have hq' : (0 : Int) < (q : Int) := by omega
        have hkb : k ≤ 20 := by
          have hk := own_len ho
          have h1 := H20.out
          rw [← HL.out, List.length_append] at h1
          omega
        go_wp2_with (at_builtin; refine wpList_app rowInts rfl (.tmp 17) (.tmp 21) rfl rfl rfl (ho.alloc _) (Rd.fresh _ _ 1 1 _ rfl) ?_ ?_ ?_ ?_ ?_)
        · intro u hu; simp at hu; subst hu; rfl
        · unfold maxLen; omega
        · omega
        · simp; omega
        intro v2 w2 o2 g2 b2
        have b2' := hbel.trans (((Below.refl w.heap.size wr).alloc hsz _).trans b2)
        have k2 := g2.bk (ho.alloc _) (kb.alloc _) (by decide)
        have kr2 := g2.bk (ho.alloc _) (kr.alloc _) (by decide)
        have HL2 := Lib.hid (big_cat HL.out hq)
        have o3 : w2.ownsRow w.heap.size 3 1 v2 (k + 1) (dcs (L ++ [q % 10])) := by
          simpa [dcs, iv] using o2
        obtain ⟨A2, c2, rfl, -, -, -⟩ := own_form o3
        have d0 := k2.cell 0
        have d1 := k2.cell 1
        have z1 := k2.frozen 1
        clear o2 b2 ho g2 c0 c1
        go_wp2
        go_roundw
        case rel =>
          refine ⟨q / 10, k + 1, _, _, by go_num, by omega, own_set o3 k2 (by decide), kr2.other (by omega), ?_, b2'.setCell (by simp) _, HL2⟩
          simpa using k2.set_ 1 (.slice A2 (k + 1) c2)
        case measure => simp [intOf]; omega
      · obtain rfl : q = 0 := by omega
        have HE : Hid (L = digs N) := Lib.hid (by have := HL.out; rw [digs_zero, List.append_nil] at this; exact this)
        obtain ⟨A, c, rfl, hnc, hcm, hrd⟩ := own_form ho
        have z0 := kr.frozen 0
        have z1 := kr.frozen 1
        have r0 := kr.cell 0
        have r1 := kr.cell 1
        clear HL
        go_wp2
        refine bodyPost_ret (v := .agg #[.bool false, .slice A k c]) (by simp [results, Tryz.results38, go_sem, r0, r1]) rfl ⟨A, k, c, rfl, hnc, hcm, ?_, (hbel.setCell (by simp) _).setCell (by simp) _⟩
        rw [← HE.out]
        exact own_rd (own_set (own_set ho kr (by decide)) (kr.set_ 0 _) (by decide))
end Go.Proofs.YtgepipapppdhfaaGreatDoor
