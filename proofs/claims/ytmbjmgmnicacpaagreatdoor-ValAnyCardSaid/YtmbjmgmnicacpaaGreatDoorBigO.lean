/- The reference's big, told by a row of one's own. Condition: a number of 64 bits. -/
import Derived.Test.YtmbjmgmnicacpaaGreatDoorRow5
namespace Go.Proofs.YtmbjmgmnicacpaaGreatDoor
open Go.RowKit

set_option maxHeartbeats 1000000 in
theorem big_own {w : World} {m : Int} (h0 : -9223372036854775808 ≤ m) (h1 : m ≤ 9223372036854775807) :
    Calls Tryz.prog 60 #[.int .i64 m] w fun e w' => ∃ v n, e = .returned (.agg #[.bool (decide (m < 0)), v]) ∧ w'.ownsRow w.heap.size 3 1 v n (dcs (digs m.natAbs)) ∧ n ≤ 20 ∧ Below w.heap.size w w' := by
  obtain ⟨N, hN⟩ : ∃ N, m.natAbs = N := ⟨_, rfl⟩
  have hNb : N ≤ 9223372036854775808 := by omega
  have H20 := Lib.hid (digs_20 (N := N) (by omega))
  have HS : Hid ((m < 0 ∧ IntKind.u64.wrap (-IntKind.u64.wrap m) = (N : Int)) ∨ (¬ m < 0 ∧ m = (N : Int))) := Lib.hid (by
    by_cases h : m < 0
    · exact .inl ⟨h, by rw [IntKind.wrap_u64, IntKind.wrap_u64]; omega⟩
    · exact .inr ⟨h, by omega⟩)
  rw [hN]
  clear hN
  go_enter Tryz.func60, Tryz.ntmps60
  rcases HS.out with ⟨h, hv⟩ | ⟨h, rfl⟩
  · have hd : decide (m < 0) = true := decide_eq_true h
    rw [hd]
    go_wp2
    go_loopw [4] (fun u wr => ∃ (q k : Nat) (v : Value) (L : List Nat), u = .int .u64 q ∧ q ≤ N ∧ wr.ownsRow w.heap.size 3 1 v k (dcs L) ∧ Bk wr w.heap.size 98 #[.bool false, .slice none 0 0] ∧ Bk wr (w.heap.size + 1) 98 #[.bool true, v] ∧ Below w.heap.size w wr ∧ Hid (L ++ digs q = digs N)) (fun u _ => (intOf u).toNat)
    case atStart =>
      have kz := Bk.new (w.alloc (.cells #[.bool false, .slice none 0 0] 98)) 98 #[.bool true, .slice none 0 0]
      simp only [World.size_alloc] at kz
      exact ⟨N, 0, _, [], rfl, Nat.le_refl _, World.ownsRow_nil _ _ _ _, (Bk.new w _ _).alloc _, kz, bel1 _ _ _, Lib.hid rfl⟩
    case round =>
      obtain ⟨q, k, v, L, rfl, hqN, ho, kr, kb, hbel, HL⟩ := hrel
      have hsz := hbel.size
      have hlt := kb.lt
      have c0 := kb.cell 0
      have c1 := kb.cell 1
      by_cases hq : 0 < q
      · have hq' : (0 : Int) < (q : Int) := by omega
        have hkb : k ≤ 20 := by
          have hk := own_len ho
          have h1 := H20.out
          rw [← HL.out, List.length_append] at h1
          omega
        go_wp2_with (at_builtin; refine wpList_app rowInts rfl (.tmp 17) (.tmp 21) rfl rfl rfl (ho.alloc _) (Rd.fresh _ _ 1 1 _ rfl) ?_ ?_ ?_ ?_ ?_)
        · intro u hu; simp at hu; subst hu; rfl
        · unfold maxLen; omega
        · omega
        · simp; omega
        intro v2 w2 o2 g2 b2
        have b2' := hbel.trans (((Below.refl w.heap.size wr).alloc hsz _).trans b2)
        have k2 := g2.bk (ho.alloc _) (kb.alloc _) (by decide)
        have kr2 := g2.bk (ho.alloc _) (kr.alloc _) (by decide)
        have HL2 := Lib.hid (big_cat HL.out hq)
        have o3 : w2.ownsRow w.heap.size 3 1 v2 (k + 1) (dcs (L ++ [q % 10])) := by
          simpa [dcs, iv] using o2
        obtain ⟨A2, c2, rfl, -, -, -⟩ := own_form o3
        have d0 := k2.cell 0
        have d1 := k2.cell 1
        have z1 := k2.frozen 1
        clear o2 b2 ho g2 c0 c1
        go_wp2
        go_roundw
        case rel =>
          refine ⟨q / 10, k + 1, _, _, by go_num, by omega, own_set o3 k2 (by decide), kr2.other (by omega), ?_, b2'.setCell (by simp) _, HL2⟩
          simpa using k2.set_ 1 (.slice A2 (k + 1) c2)
        case measure => simp [intOf]; omega
      · obtain rfl : q = 0 := by omega
        have HE : Hid (L = digs N) := Lib.hid (by have := HL.out; rw [digs_zero, List.append_nil] at this; exact this)
        obtain ⟨A, c, rfl, -, -, -⟩ := own_form ho
        have hk20 : k ≤ 20 := by
          have h1 := own_len ho
          have h2 := H20.out
          rw [← HE.out] at h2
          omega
        have z0 := kr.frozen 0
        have z1 := kr.frozen 1
        have r0 := kr.cell 0
        have r1 := kr.cell 1
        clear HL
        go_wp2
        refine bodyPost_ret (v := .agg #[.bool true, .slice A k c]) (by simp [results, Tryz.results60, go_sem, r0, r1]) rfl ⟨_, k, rfl, ?_, hk20, (hbel.setCell (by simp) _).setCell (by simp) _⟩
        rw [← HE.out]
        exact own_set (own_set ho kr (by decide)) (kr.set_ 0 _) (by decide)
  · have hd : decide ((N : Int) < 0) = false := decide_eq_false h
    rw [hd]
    go_wp2
    go_loopw [4] (fun u wr => ∃ (q k : Nat) (v : Value) (L : List Nat), u = .int .u64 q ∧ q ≤ N ∧ wr.ownsRow w.heap.size 3 1 v k (dcs L) ∧ Bk wr w.heap.size 98 #[.bool false, .slice none 0 0] ∧ Bk wr (w.heap.size + 1) 98 #[.bool false, v] ∧ Below w.heap.size w wr ∧ Hid (L ++ digs q = digs N)) (fun u _ => (intOf u).toNat)
    case atStart =>
      have kz := Bk.new (w.alloc (.cells #[.bool false, .slice none 0 0] 98)) 98 #[.bool false, .slice none 0 0]
      simp only [World.size_alloc] at kz
      exact ⟨N, 0, _, [], rfl, Nat.le_refl _, World.ownsRow_nil _ _ _ _, (Bk.new w _ _).alloc _, kz, bel1 _ _ _, Lib.hid rfl⟩
    case round =>
      obtain ⟨q, k, v, L, rfl, hqN, ho, kr, kb, hbel, HL⟩ := hrel
      have hsz := hbel.size
      have hlt := kb.lt
      have c0 := kb.cell 0
      have c1 := kb.cell 1
      by_cases hq : 0 < q
      · have hq' : (0 : Int) < (q : Int) := by omega
        have hkb : k ≤ 20 := by
          have hk := own_len ho
          have h1 := H20.out
          rw [← HL.out, List.length_append] at h1
          omega
        go_wp2_with (at_builtin; refine wpList_app rowInts rfl (.tmp 17) (.tmp 21) rfl rfl rfl (ho.alloc _) (Rd.fresh _ _ 1 1 _ rfl) ?_ ?_ ?_ ?_ ?_)
        · intro u hu; simp at hu; subst hu; rfl
        · unfold maxLen; omega
        · omega
        · simp; omega
        intro v2 w2 o2 g2 b2
        have b2' := hbel.trans (((Below.refl w.heap.size wr).alloc hsz _).trans b2)
        have k2 := g2.bk (ho.alloc _) (kb.alloc _) (by decide)
        have kr2 := g2.bk (ho.alloc _) (kr.alloc _) (by decide)
        have HL2 := Lib.hid (big_cat HL.out hq)
        have o3 : w2.ownsRow w.heap.size 3 1 v2 (k + 1) (dcs (L ++ [q % 10])) := by
          simpa [dcs, iv] using o2
        obtain ⟨A2, c2, rfl, -, -, -⟩ := own_form o3
        have d0 := k2.cell 0
        have d1 := k2.cell 1
        have z1 := k2.frozen 1
        clear o2 b2 ho g2 c0 c1
        go_wp2
        go_roundw
        case rel =>
          refine ⟨q / 10, k + 1, _, _, by go_num, by omega, own_set o3 k2 (by decide), kr2.other (by omega), ?_, b2'.setCell (by simp) _, HL2⟩
          simpa using k2.set_ 1 (.slice A2 (k + 1) c2)
        case measure => simp [intOf]; omega
      · obtain rfl : q = 0 := by omega
        have HE : Hid (L = digs N) := Lib.hid (by have := HL.out; rw [digs_zero, List.append_nil] at this; exact this)
        obtain ⟨A, c, rfl, -, -, -⟩ := own_form ho
        have hk20 : k ≤ 20 := by
          have h1 := own_len ho
          have h2 := H20.out
          rw [← HE.out] at h2
          omega
        have z0 := kr.frozen 0
        have z1 := kr.frozen 1
        have r0 := kr.cell 0
        have r1 := kr.cell 1
        clear HL
        go_wp2
        refine bodyPost_ret (v := .agg #[.bool false, .slice A k c]) (by simp [results, Tryz.results60, go_sem, r0, r1]) rfl ⟨_, k, rfl, ?_, hk20, (hbel.setCell (by simp) _).setCell (by simp) _⟩
        rw [← HE.out]
        exact own_set (own_set ho kr (by decide)) (kr.set_ 0 _) (by decide)
end Go.Proofs.YtmbjmgmnicacpaaGreatDoor
