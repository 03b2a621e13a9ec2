/- le.take by its contract. Condition: the bytes read as such. -/
import Derived.Test.YtllcecnkbndokaaGreatDoorCur
namespace Go.Proofs.YtllcecnkbndokaaGreatDoor
open Go.RowKit

/-- What is wrong with taking k bytes at a place of n. -/
def tkE (at_ k : Int) (n : Nat) : Int := if stB at_ n = false ∨ k < 0 then 1 else if (n : Int) - at_ < k then 5 else 0
def tkAt (at_ k : Int) (n : Nat) : Int := if tkE at_ k n = 0 then at_ + k else at_
def tkL (l : List UInt8) (at_ k : Int) : List UInt8 := if tkE at_ k l.length = 0 then (l.drop at_.toNat).take k.toNat else []

theorem tkE_ok {at_ k : Int} {n : Nat} (h : tkE at_ k n = 0) : 0 ≤ at_ ∧ 0 ≤ k ∧ at_ + k ≤ (n : Int) := by
  unfold tkE at h
  by_cases h1 : stB at_ n = false ∨ k < 0
  · rw [if_pos h1] at h; cases h
  · rw [if_neg h1] at h
    by_cases h2 : (n : Int) - at_ < k
    · rw [if_pos h2] at h; cases h
    · have h3 : stB at_ n = true := by
        cases hs : stB at_ n
        · exact absurd (.inl hs) h1
        · rfl
      have h4 : 0 ≤ at_ ∧ at_ ≤ (n : Int) := by simpa [stB] using h3
      have h5 : ¬ k < 0 := fun h => h1 (.inr h)
      omega

theorem tkL_len (l : List UInt8) (at_ k : Int) : (tkL l at_ k).length ≤ k.toNat := by
  unfold tkL
  split
  · rw [List.length_take]; exact Nat.min_le_left _ _
  · exact Nat.zero_le _

theorem two_boxes {w w1 : World} {T T' : TypeId} {cs ds : Array Value} (hb : Below ((w.alloc (.cells cs T)).alloc (.cells ds T')).heap.size ((w.alloc (.cells cs T)).alloc (.cells ds T')) w1) :
    Bk w1 w.heap.size T cs ∧ Bk w1 (w.heap.size + 1) T' ds ∧ Below w.heap.size w w1 ∧ w.heap.size + 2 ≤ w1.heap.size := by
  refine ⟨((Bk.new w T cs).alloc _).below hb (by simp; omega), ?_, (((Below.refl w.heap.size w).alloc (Nat.le_refl _) _).alloc (by simp) _).trans (hb.mono (by simp; omega)), by have := hb.size; simpa using this⟩
  have := (Bk.new (w.alloc (.cells cs T)) T' ds).below hb (by simp)
  rwa [show (w.alloc (.cells cs T)).heap.size = w.heap.size + 1 by simp] at this

theorem tk_err {l : List UInt8} {at_ k e : Int} {n : Nat} (hl : l.length = n) (he : tkE at_ k n = e) (h0 : e ≠ 0) : tkL l at_ k = [] ∧ tkAt at_ k n = at_ := by
  subst hl
  unfold tkL tkAt
  rw [if_neg (by rw [he]; exact h0), if_neg (by rw [he]; exact h0)]
  exact ⟨rfl, rfl⟩

theorem not_bad {b : Bool} {k : Int} (h : b = true) (hk : 0 ≤ k) : ¬ (b = false ∨ k < 0) := by
  subst h
  intro h
  rcases h with h | h
  · cases h
  · omega

/-- What is told where nothing can be taken. -/
theorem take_none {w W : World} {B n c : Nat} {at_ k e : Int} {A : Option Addr} {l : List UInt8} (hl : l.length = n) (he : tkE at_ k n = e) (h0 : e ≠ 0) (hb : Below w.heap.size w W) :
    ∃ A' c', Ending.returned (.tuple #[.slice none 0 0, .agg #[.slice A n c, .int .i64 at_], .int .i64 e]) = .returned (.tuple #[.slice A' (tkL l at_ k).length c', .agg #[.slice A n c, .int .i64 (tkAt at_ k n)], .int .i64 (tkE at_ k n)]) ∧
      (tkL l at_ k).length ≤ c' ∧ Rd w B 1 A' (tkL l at_ k).length ((tkL l at_ k).map bv) ∧ Below w.heap.size w W := by
  obtain ⟨h1, h2⟩ := tk_err hl he h0
  rw [h1, h2, he]
  exact ⟨none, 0, rfl, Nat.le_refl _, Rd.nil _ _ _ _, hb⟩

theorem take_some {w W : World} {B n c p q : Nat} {A A' : Option Addr} {l : List UInt8} (hl : l.length = n) (he : tkE p q n = 0) (hnc : n ≤ c) (hA : A' = if c = p then A else A.map (·.add (p * 1))) (h : Rd w B 1 A n (l.map bv)) (hb : Below w.heap.size w W) :
    ∃ A'' c', Ending.returned (.tuple #[.slice A' q (c - p), .agg #[.slice A n c, .int .i64 ((p : Int) + (q : Int))], .int .i64 0]) = .returned (.tuple #[.slice A'' (tkL l p q).length c', .agg #[.slice A n c, .int .i64 (tkAt p q n)], .int .i64 (tkE p q n)]) ∧
      (tkL l p q).length ≤ c' ∧ Rd w B 1 A'' (tkL l p q).length ((tkL l p q).map bv) ∧ Below w.heap.size w W := by
  obtain ⟨h0, h1, h2⟩ := tkE_ok he
  have hL : tkL l p q = (l.drop p).take q := by unfold tkL; rw [if_pos (by rw [hl]; exact he)]; simp
  have hlen : (tkL l p q).length = q := by rw [hL, List.length_take, List.length_drop]; omega
  have hc := h.cut (i := p) (j := p + q) (cap := c) (by omega) (by omega) hnc
  rw [hlen, hL, he, show tkAt p q n = (p : Int) + q by unfold tkAt; rw [if_pos he]]
  refine ⟨A', c - p, rfl, by omega, ?_, hb⟩
  rw [hA]
  have e : p + q - p = q := by omega
  rw [e] at hc
  simpa [List.map_drop, List.map_take] using hc

theorem take_full {w W : World} {B n c : Nat} {A : Option Addr} {l : List UInt8} (he : tkE c (0 : Nat) n = 0) (hb : Below w.heap.size w W) :
    ∃ A'' c', Ending.returned (.tuple #[.slice A 0 0, .agg #[.slice A n c, .int .i64 c], .int .i64 0]) = .returned (.tuple #[.slice A'' (tkL l c (0 : Nat)).length c', .agg #[.slice A n c, .int .i64 (tkAt c (0 : Nat) n)], .int .i64 (tkE c (0 : Nat) n)]) ∧
      (tkL l c (0 : Nat)).length ≤ c' ∧ Rd w B 1 A'' (tkL l c (0 : Nat)).length ((tkL l c (0 : Nat)).map bv) ∧ Below w.heap.size w W := by
  have hL : tkL l c (0 : Nat) = [] := by unfold tkL; split <;> simp
  rw [hL, he, show tkAt c (0 : Nat) n = (c : Int) by unfold tkAt; rw [if_pos he]; simp]
  exact ⟨A, 0, rfl, Nat.le_refl _, Rd.nil _ _ _ _, hb⟩

set_option maxHeartbeats 1000000 in
theorem take_any {w : World} {B n c : Nat} {at_ k : Int} {A : Option Addr} {l : List UInt8} (h : Rd w B 1 A n (l.map bv)) (hnc : n ≤ c) (hn : n ≤ 1000000000000000000) :
    Calls Tryz.prog 67 #[.agg #[.slice A n c, .int .i64 at_], .int .i64 k] w fun e w' => ∃ A' c', e = .returned (.tuple #[.slice A' (tkL l at_ k).length c', .agg #[.slice A n c, .int .i64 (tkAt at_ k n)], .int .i64 (tkE at_ k n)]) ∧
      (tkL l at_ k).length ≤ c' ∧ Rd w B 1 A' (tkL l at_ k).length ((tkL l at_ k).map bv) ∧ Below w.heap.size w w' := by
  have hl := h.len
  rw [List.length_map, Nat.mul_one] at hl
  have HL := Lib.hid hl
  clear hl
  cases hst : stB at_ n
  · have HF := Lib.hid (show tkE at_ k n = 1 by simp [tkE, hst])
    have HT := Lib.hid hst
    clear hst
    go_enter Tryz.func67, Tryz.ntmps67
    go_wp2_with fail
    go_step3
    go_wp2_with fail
    refine stands_any.mono ?_
    rintro e w1 ⟨rfl, hb1⟩
    rw [HT.out]
    obtain ⟨k1, k2, hb', s1⟩ := two_boxes hb1
    have c0 := k1.cell 0
    have c1 := k1.cell 1
    have d0 := k2.cell 0
    have d1 := k2.cell 1
    have z0 := k2.frozen 0
    have z1 := k2.frozen 1
    go_wp2
    go_region
    all_goals
      go_wp2
      rw [Exit.noGoto_ret]
      refine bodyPost_ret (v := .tuple #[.slice none 0 0, .agg #[.slice A n c, .int .i64 at_], .int .i64 1]) (by simp [results, Tryz.results67, go_sem, d0, d1]) rfl ?_
      exact take_none HL.out HF.out (by decide) ((hb'.setCell (by simp) _).setCell (by simp) _).drew
  · have h01 : 0 ≤ at_ ∧ at_ ≤ (n : Int) := by simpa [stB] using hst
    obtain ⟨h0, h1⟩ := h01
    obtain ⟨p, rfl⟩ := Int.eq_ofNat_of_zero_le h0
    have HT := Lib.hid hst
    by_cases hk : k < 0
    · have HF := Lib.hid (show tkE p k n = 1 by simp [tkE, hk])
      clear hst
      go_enter Tryz.func67, Tryz.ntmps67
      go_wp2_with fail
      go_step3
      go_wp2_with fail
      refine stands_any.mono ?_
      rintro e w1 ⟨rfl, hb1⟩
      rw [HT.out]
      obtain ⟨k1, k2, hb', s1⟩ := two_boxes hb1
      have c0 := k1.cell 0
      have c1 := k1.cell 1
      have d0 := k2.cell 0
      have d1 := k2.cell 1
      have z0 := k2.frozen 0
      have z1 := k2.frozen 1
      go_wp2
      go_region
      all_goals
        go_wp2
        rw [Exit.noGoto_ret]
        refine bodyPost_ret (v := .tuple #[.slice none 0 0, .agg #[.slice A n c, .int .i64 p], .int .i64 1]) (by simp [results, Tryz.results67, go_sem, d0, d1]) rfl ?_
        exact take_none HL.out HF.out (by decide) ((hb'.setCell (by simp) _).setCell (by simp) _).drew
    · obtain ⟨q, rfl⟩ := Int.eq_ofNat_of_zero_le (show 0 ≤ k by omega)
      by_cases hsh : (n : Int) - p < q
      · have HF := Lib.hid (show tkE p q n = 5 by unfold tkE; rw [if_neg (not_bad hst (by omega)), if_pos hsh])
        clear hst
        go_enter Tryz.func67, Tryz.ntmps67
        go_wp2_with fail
        refine wp_scope_fwd 0 rfl ?_
        go_wp2_with fail
        refine stands_any.mono ?_
        rintro e w1 ⟨rfl, hb1⟩
        rw [HT.out]
        obtain ⟨k1, k2, hb', s1⟩ := two_boxes hb1
        have c0 := k1.cell 0
        have c1 := k1.cell 1
        go_wp2_with fail
        refine (left_any h0 h1 hn).mono ?_
        rintro e w2 ⟨rfl, hb2⟩
        have hb2' := hb'.trans (hb2.mono (by omega))
        have k1' := k1.below hb2 (by omega)
        have k2' := k2.below hb2 (by omega)
        clear c0 c1
        have c0 := k1'.cell 0
        have c1 := k1'.cell 1
        have d0 := k2'.cell 0
        have d1 := k2'.cell 1
        have z0 := k2'.frozen 0
        have z1 := k2'.frozen 1
        go_wp2
        go_step3
        refine ⟨rfl, ?_⟩
        show Code.wp _ _ _ _ _
        go_wp2
        go_region
        all_goals
          go_wp2
          rw [Exit.noGoto_ret]
          refine bodyPost_ret (v := .tuple #[.slice none 0 0, .agg #[.slice A n c, .int .i64 p], .int .i64 5]) (by simp [results, Tryz.results67, go_sem, d0, d1]) rfl ?_
          exact take_none HL.out HF.out (by decide) ((hb2'.setCell (by simp) _).setCell (by simp) _).drew
      · have HF := Lib.hid (show tkE p q n = 0 by unfold tkE; rw [if_neg (not_bad hst (by omega)), if_neg hsh])
        clear hst hk
        have hpq : (p : Int) + (q : Int) ≤ (n : Int) := by omega
        have hpc : (p : Int) + (q : Int) ≤ (c : Int) := by omega
        have hp0 : (p : Int) ≤ (p : Int) + (q : Int) := by omega
        have hw : IntKind.i64.wrap ((p : Int) + (q : Int)) = (p : Int) + (q : Int) := IntWalk.i64_in _ (by omega)
        have hx : ((p : Int) + (q : Int)).toNat = p + q := by omega
        by_cases hcp : c = p
        · obtain rfl : q = 0 := by omega
          subst hcp
          go_enter Tryz.func67, Tryz.ntmps67
          go_wp2_with fail
          go_step3
          go_wp2_with fail
          refine stands_any.mono ?_
          rintro e w1 ⟨rfl, hb1⟩
          rw [HT.out]
          obtain ⟨k1, k2, hb', s1⟩ := two_boxes hb1
          have c0 := k1.cell 0
          have c1 := k1.cell 1
          go_wp2_with fail
          refine (left_any h0 h1 hn).mono ?_
          rintro e w2 ⟨rfl, hb2⟩
          have hb2' := hb'.trans (hb2.mono (by omega))
          have k1' := k1.below hb2 (by omega)
          have k2' := k2.below hb2 (by omega)
          clear c0 c1
          have c0 := k1'.cell 0
          have c1 := k1'.cell 1
          have d0 := k2'.cell 0
          have d1 := k2'.cell 1
          have z0 := k2'.frozen 0
          have z1 := k2'.frozen 1
          go_wp2
          go_region
          all_goals
            go_wp2
            rw [Exit.noGoto_ret]
            refine bodyPost_ret (v := .tuple #[.slice A 0 0, .agg #[.slice A n c, .int .i64 c], .int .i64 0]) (by simp [results, Tryz.results67, go_sem, d0, d1]) rfl ?_
            exact take_full HF.out ((hb2'.setCell (by simp) _).setCell (by simp) _).drew
        · have hcp' : ¬ (p = c) := fun e => hcp e.symm
          go_enter Tryz.func67, Tryz.ntmps67
          go_wp2_with fail
          go_step3
          go_wp2_with fail
          refine stands_any.mono ?_
          rintro e w1 ⟨rfl, hb1⟩
          rw [HT.out]
          obtain ⟨k1, k2, hb', s1⟩ := two_boxes hb1
          have c0 := k1.cell 0
          have c1 := k1.cell 1
          go_wp2_with fail
          refine (left_any h0 h1 hn).mono ?_
          rintro e w2 ⟨rfl, hb2⟩
          have hb2' := hb'.trans (hb2.mono (by omega))
          have k1' := k1.below hb2 (by omega)
          have k2' := k2.below hb2 (by omega)
          clear c0 c1
          have c0 := k1'.cell 0
          have c1 := k1'.cell 1
          have d0 := k2'.cell 0
          have d1 := k2'.cell 1
          have z0 := k2'.frozen 0
          have z1 := k2'.frozen 1
          go_wp2
          go_region
          all_goals
            go_wp2
            rw [Exit.noGoto_ret]
            refine bodyPost_ret (v := .tuple #[.slice (A.map (·.add (p * 1))) q (c - p), .agg #[.slice A n c, .int .i64 ((p : Int) + (q : Int))], .int .i64 0]) (by simp [results, Tryz.results67, go_sem, d0, d1]) rfl ?_
            exact take_some HL.out HF.out hnc (by rw [if_neg hcp]) h ((hb2'.setCell (by simp) _).setCell (by simp) _).drew
end Go.Proofs.YtllcecnkbndokaaGreatDoor
