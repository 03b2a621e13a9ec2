/- slices.Clone, slices.Sort of rising cuts, sst.partsHead by their contracts. Conditions: the cuts read as rising numbers. -/
/- sst.readTexts of bytes that are texts by its contract. Conditions: the bytes and the cuts read as such; no cut right behind another one; all texts are read. -/
import Derived.Test.YtllcecnkbndokaaGreatDoorEnc
import Derived.Test.YtllcecnkbndokaaGreatDoorGet
import Derived.Sort.OwnSortedInts
import Derived.Test.YtllcecnkbndokaaGreatDoorLay2
namespace Go.Proofs.YtllcecnkbndokaaGreatDoor
open Go.RowKit Go.Lib Go.Sort

theorem CutS.cells {w : World} {B n g o : Nat} {cs : List Int} (h : CutS w B (some ⟨g, o, none⟩) n cs) (h0 : 0 < n) : ∀ j, j < cs.length → w.cell? ⟨g, o + j, none⟩ = some (.int .i64 (cs.getD j 0)) := by
  intro j hj
  obtain ⟨a, ha, _, hcell⟩ := h.rd.at_ h0
  injection ha with ha
  subst ha
  have := hcell j (iv (cs.getD j 0)) (by rw [List.getElem?_map, List.getElem?_eq_getElem hj, List.getD_eq_getElem?_getD, List.getElem?_eq_getElem hj]; rfl)
  rw [addr_at] at this
  exact this
theorem cloneInts_any {w : World} {B n c : Nat} {A : Option Addr} {cs : List Int} (h : CutS w B A n cs) :
    Calls Tryz.prog 50 #[.slice A n c] w fun e w' => ∃ v', e = .returned v' ∧ w'.ownsRow w.heap.size 3 1 v' n (cs.map iv) ∧ Below w.heap.size w w' := by
  have hl := h.len
  rcases Nat.eq_zero_or_pos n with h0 | h0
  · subst h0
    obtain rfl : cs = [] := List.eq_nil_of_length_eq_zero hl
    cases A with
    | none =>
      refine (Tryz.slices_Clone_int_nil 0 c w).mono ?_
      rintro e w' ⟨rfl, rfl⟩
      exact ⟨_, rfl, World.ownsRow_nil _ _ _ _, Below.refl _ _⟩
    | some a =>
      refine (Tryz.slices_Clone_int_zero a c w).mono ?_
      rintro e w' ⟨v', rfl, ho, -, hb⟩
      exact ⟨_, rfl, ho, hb⟩
  · obtain ⟨g, o, rfl⟩ : ∃ g o, A = some ⟨g, o, none⟩ := by
      rcases h.at_ with h1 | h1
      · omega
      · exact h1
    have hc := h.cells h0
    have := h.few
    refine (Tryz.slices_Clone_int g o n c cs w (by omega) (by omega) hc).mono ?_
    rintro e w' ⟨v', rfl, ho, -, hb⟩
    rw [List.take_of_length_le (by omega)] at ho
    exact ⟨_, rfl, ho, hb⟩
theorem sorted_same {cs : List Int} (h : cs.Pairwise (· ≤ ·)) : (cs.mergeSort fun x y => decide (x ≤ y)) = cs :=
  List.mergeSort_of_pairwise (h.imp fun h => by simpa using h)
theorem sortInts_any {w : World} {base n : Nat} {v : Value} {cs : List Int} (ho : w.ownsRow base 3 1 v n (cs.map iv)) (hup : cs.Pairwise (· ≤ ·)) (hn : n ≤ 1000000) :
    Calls Tryz.prog 51 #[v] w fun e w' => e = .returned (.tuple #[]) ∧ w'.ownsRow base 3 1 v n (cs.map iv) ∧ w.grownBy w' v.ownBlock := by
  have hl : cs.length = n := by have := ho.1; simpa using this
  rcases ho.2 with ⟨rfl, rfl⟩ | ⟨g, cap, cur, rfl, hb, hg, hnc, hm, hs, ht⟩
  · refine (Tryz.slices_Sort_int_none none 0 w).mono ?_
    rintro e w' ⟨rfl, rfl⟩
    exact ⟨rfl, ho, World.grownBy.refl _ _⟩
  · rcases Nat.eq_zero_or_pos n with h0 | h0
    · subst h0
      refine (Tryz.slices_Sort_int_none _ cap w).mono ?_
      rintro e w' ⟨rfl, rfl⟩
      exact ⟨rfl, ho, World.grownBy.refl _ _⟩
    · have hH := holds_of_blockI (ss := cs) hg (by rw [hl]; rw [Nat.mul_one] at ht; exact ht)
      have hlt := (Array.getElem?_eq_some_iff.1 hg).1
      have hc := Tryz.slices_Sort_int g 0 cap cs w hH hlt (by omega)
      rw [hl] at hc
      refine hc.mono ?_
      rintro e w' ⟨rfl, m, os, rfl⟩
      rw [sorted_same hup]
      refine ⟨rfl, ?_, grownBy_sortedI _⟩
      have := ownsRow_sortedI (base := base) (cap := cap) (n := m) (os := os) (ss := cs) (ts := cs) rfl hb hg (by omega) hm hs
      rw [hl] at this
      exact this
/-- An own row of cuts. -/
theorem cutS_own {w : World} {base n c : Nat} {A : Option Addr} {cs : List Int} (ho : w.ownsRow base 3 1 (.slice A n c) n (cs.map iv)) (hup : cs.Pairwise (· ≤ ·)) (hn : n ≤ 1000000) : CutS w w.heap.size A n cs := by
  refine ⟨own_form_rd ho, hup, ?_, hn⟩
  rcases ho.2 with ⟨hv, h0⟩ | ⟨g, cap, cur, hv, -⟩
  · exact .inl h0
  · injection hv with hA
    exact .inr ⟨g, 0, hA⟩
theorem countP_at : ∀ (cs : List Int) (x : Int), cs.Pairwise (· ≤ ·) → ∀ y, cs[cs.countP (· < x)]? = some y → x ≤ y
  | [], x, _, y, h => by simp at h
  | a :: cs, x, hp, y, h => by
    rw [List.pairwise_cons] at hp
    by_cases hx : a < x
    · rw [List.countP_cons_of_pos (by simpa using hx), List.getElem?_cons_succ] at h
      exact countP_at cs x hp.2 y h
    · have h0 : (a :: cs).countP (· < x) = 0 := by
        rw [List.countP_eq_zero]
        intro z hz
        rcases List.mem_cons.1 hz with rfl | hz
        · simpa using hx
        · have := hp.1 z hz
          simp
          omega
      rw [h0] at h
      simp at h
      omega

set_option maxHeartbeats 4000000 in
set_option maxRecDepth 100000 in
/-- No cut within the head. -/
theorem partsHead_no {w : World} {B n c at_ : Nat} {A : Option Addr} {cs : List Int} (h : CutS w B A n cs) (hat : at_ ≤ 1000000000) (h1 : cs.contains ((at_ : Int) + 1) = false) (h2 : cs.contains ((at_ : Int) + 2) = false) :
    Calls Tryz.prog 69 #[.slice A n c, .int .i64 (at_ : Nat)] w fun e w' => e = .returned (.bool false) ∧ Below w.heap.size w w' := by
  have hl := h.len
  rcases Nat.eq_zero_or_pos n with h0 | h0
  · subst h0
    clear h h1 h2
    go_enter Tryz.func69, Tryz.ntmps69
    go_wp2_with fail
    refine (Tryz.slices_BinarySearch_int_empty A c _ _).mono ?_
    rintro e w1 ⟨rfl, rfl⟩
    go_wp2
    go_ret
    exact ⟨rfl, Below.refl _ _⟩
  · obtain ⟨g, o, rfl⟩ : ∃ g o, A = some ⟨g, o, none⟩ := by
      rcases h.at_ with h1 | h1
      · omega
      · exact h1
    have hc := h.cells h0
    have hs : (cs.take n).Pairwise (· ≤ ·) := by rw [List.take_of_length_le (by omega)]; exact h.up
    have hf := h.few
    have HC := Tryz.slices_BinarySearch_int g o n c cs ((at_ : Int) + 1) w (by omega) (by omega) hc hs
    rw [List.take_of_length_le (show cs.length ≤ n by omega)] at HC
    have hK := countP_at cs ((at_ : Int) + 1) h.up
    have hKn : cs.countP (· < (at_ : Int) + 1) ≤ n := by rw [← hl]; exact List.countP_le_length
    rw [h1] at HC
    generalize cs.countP (· < (at_ : Int) + 1) = K at *
    by_cases hKl : K < n
    · obtain ⟨y, hy⟩ : ∃ y, cs[K]? = some y := ⟨_, List.getElem?_eq_getElem (by omega)⟩
      have hcy := hc K (by omega)
      rw [List.getD_eq_getElem?_getD, hy] at hcy
      have hm := List.mem_of_getElem? hy
      have y1 := hK y hy
      have y2 : y ≠ (at_ : Int) + 1 := by rintro rfl; rw [← List.contains_iff_mem] at hm; rw [hm] at h1; cases h1
      have y3 : y ≠ (at_ : Int) + 2 := by rintro rfl; rw [← List.contains_iff_mem] at hm; rw [hm] at h2; cases h2
      have y4 : ¬ y < (at_ : Int) + 3 := by omega
      have hcy2 : ∀ q, (w.drewN q).cell? ⟨g, o + K, none⟩ = some (.int .i64 y) := fun q => hcy
      have hKl' : (K : Int) < (n : Int) := by omega
      clear hK hy hm hc hs h h1 h2 y1 y2 y3 hcy
      have HC2 := Lib.hid HC
      clear HC
      go_enter Tryz.func69, Tryz.ntmps69
      go_wp2_with fail
      refine HC2.out.mono ?_
      rintro e w1 ⟨rfl, q, rfl⟩
      have hcq := hcy2 q
      have hb := below_drewN (Below.refl w.heap.size w) q
      generalize w.drewN q = w2 at *
      clear hcy2
      go_wp2
      go_ret
      refine ⟨?_, hb⟩
      show Ending.returned (Value.bool (decide (y < (at_ : Int) + 3))) = _
      rw [decide_eq_false (by omega)]
    · have hKl' : ¬ (K : Int) < (n : Int) := by omega
      clear hK hc hs h h1 h2
      have HC2 := Lib.hid HC
      clear HC
      go_enter Tryz.func69, Tryz.ntmps69
      go_wp2_with fail
      refine HC2.out.mono ?_
      rintro e w1 ⟨rfl, q, rfl⟩
      have hb := below_drewN (Below.refl w.heap.size w) q
      go_wp2
      go_ret
      exact ⟨rfl, hb⟩
end Go.Proofs.YtllcecnkbndokaaGreatDoor
namespace Go.Proofs.YtllcecnkbndokaaGreatDoor
open Go.RowKit Go.Lib

theorem rdUs_le (l : List UInt8) (cs : List Int) : ∀ (k fl a : Nat), a ≤ l.length → fl ≤ 1 → (rdUs l cs k fl a).2.1 ≤ l.length
  | 0, _, a, h, _ => h
  | k + 1, fl, a, h, hf => by
    have h1 := rdA_le l cs fl a h hf
    have h2 := rdU1_le l cs (rdA l cs fl a).1 (rdA l cs fl a).2.1 h1.1
    rw [rdUs]
    split
    · split
      · exact rdUs_le l cs k _ _ h2.1 h1.2
      · exact Nat.zero_le _
    · exact Nat.zero_le _
theorem rdS_le (l : List UInt8) (cs : List Int) (a : Nat) (h : a ≤ l.length) : (rdS l cs a).2.1 ≤ l.length := by
  have hA : (rdAll l cs a).2.1 ≤ l.length := by
    unfold rdAll
    split
    · split
      · exact Nat.zero_le _
      · split
        · have := rdF_le l (a + 2) (by omega)
          exact rdUs_le _ _ _ _ _ this.1 this.2
        · exact Nat.zero_le _
    · exact Nat.zero_le _
  unfold rdS
  split
  · split
    · exact hA
    · exact h
  · exact h
theorem rdTs_step {b : List UInt8} {cs : List Int} {m a a' : Nat} {l : List UInt8} {ls : List (List UInt8)} (h : rdTs b cs (m + 1) a = (l :: ls, a', 0)) : cs.contains ((a : Int) + 1) = false ∧ cs.contains ((a : Int) + 2) = false ∧ ∃ a2, rdS b cs a = (l, a2, 0) ∧ rdTs b cs m a2 = (ls, a', 0) := by
  rw [rdTs] at h
  by_cases h1 : cs.contains ((a : Int) + 1) = true ∨ cs.contains ((a : Int) + 2) = true
  · rw [if_pos h1] at h
    simp at h
  · rw [if_neg h1] at h
    rw [not_or, Bool.not_eq_true, Bool.not_eq_true] at h1
    by_cases h2 : (rdS b cs a).2.2 = 0
    · rw [if_pos h2] at h
      refine ⟨h1.1, h1.2, (rdS b cs a).2.1, ?_, ?_⟩
      · rw [Prod.mk.injEq] at h
        have h3 := (List.cons.inj h.1).1
        rw [← h3, ← h2]
      · rw [Prod.mk.injEq] at h
        have h3 := (List.cons.inj h.1).2
        rw [← h3, ← h.2]
    · rw [if_neg h2] at h
      simp only [Prod.mk.injEq] at h
      cases h.1

set_option maxHeartbeats 8000000 in
set_option maxRecDepth 100000 in
theorem readTexts_good {w : World} {B n c n' c' at_ a' m : Nat} {A A' : Option Addr} {l : List UInt8} {cs : List Int} {ls : List (List UInt8)} (h : Rd w B 1 A n (l.map bv)) (hC : CutS w B A' n' cs) (hnc : n ≤ c) (hn : n ≤ 100000000) (hB : B ≤ w.heap.size) (ha : at_ ≤ n) (hna : ∀ x : Int, cs.contains x = true → cs.contains (x + 1) = false) (hm : m ≤ 1000000) (hm2 : ls.length = m) (hr : rdTs l cs m at_ = (ls, a', 0)) :
    Calls Tryz.prog 53 #[.agg #[.slice A n c, .int .i64 (at_ : Nat)], .slice A' n' c', .int .i64 (m : Nat)] w fun e w' => ∃ v', e = .returned (.tuple #[v', .agg #[.slice A n c, .int .i64 (a' : Nat)], .int .i64 0]) ∧ w'.ownsRow w.heap.size 9 1 v' m (ls.map tv) ∧ Below w.heap.size w w' := by
  have hl := h.blen
  have HNA := Lib.hid hna
  clear hna
  go_enter Tryz.func53, Tryz.ntmps53
  go_wp2_with fail
  refine wp_scope_fwd 0 rfl ?_
  go_wp2_with fail
  go_loopw [9, 13] (fun v i wr => ∃ (k a : Nat) (q : List (List UInt8)), i = .int .i64 k ∧ k ≤ m ∧ a ≤ n ∧ q.length = m - k ∧ Hid (q = ls.drop k) ∧ wr.ownsRow (w.heap.size + 2) 9 1 v k ((ls.take k).map tv) ∧ Bk wr w.heap.size 99 #[.slice A n c, .int .i64 (a : Nat)] ∧ Bk wr (w.heap.size + 1) 99 #[.slice none 0 0, .int .i64 0] ∧ Below w.heap.size w wr ∧ Hid (rdTs l cs (m - k) a = (q, a', 0))) (fun _ i _ => m - (Go.RowKit.intOf i).toNat)
  case atStart =>
    refine ⟨0, at_, ls, rfl, Nat.zero_le _, ha, by omega, Lib.hid (by simp), World.ownsRow_nil _ _ _ _, (Bk.new w _ _).alloc _, ?_, ((Below.refl w.heap.size w).alloc (Nat.le_refl _) _).alloc (by simp) _, Lib.hid hr⟩
    have := Bk.new (w.alloc (.cells #[.slice A n c, .int .i64 (at_ : Nat)] 99)) 99 #[.slice none 0 0, .int .i64 0]
    rwa [show (w.alloc (.cells #[.slice A n c, .int .i64 (at_ : Nat)] 99)).heap.size = w.heap.size + 1 by simp] at this
  case round =>
    clear hr ha
    obtain ⟨k, a, q, rfl, hk, han, hql, HQ, ho, k1, k2, hbel, HR⟩ := hrel
    have hsz := k2.lt
    by_cases hkm : k < m
    · have hkm' : (k : Int) < (m : Int) := by omega
      obtain ⟨t, q', rfl⟩ : ∃ t q', q = t :: q' := by
        cases q with
        | nil => simp at hql; omega
        | cons t q' => exact ⟨t, q', rfl⟩
      have hr0 := HR.out
      rw [show m - k = m - (k + 1) + 1 by omega] at hr0
      obtain ⟨n1, n2, a2, hS, hR2⟩ := rdTs_step hr0
      have HR2 := Lib.hid hR2
      have ha2 : a2 ≤ n := by
        have h3 := rdS_le l cs a (by omega)
        rw [hS] at h3
        have h4 : a2 ≤ l.length := h3
        omega
      have hlsk : ls[k]? = some t := by
        have := HQ.out
        have h1 : (ls.drop k)[0]? = some t := by rw [← this]; rfl
        rwa [List.getElem?_drop, Nat.add_zero] at h1
      have HT : Hid (ls.take (k + 1) = ls.take k ++ [t]) := Lib.hid (by
        have hi := List.getElem?_eq_some_iff.1 hlsk
        rw [← List.take_append_getElem hi.1, hi.2])
      have HQ2 : Hid (q' = ls.drop (k + 1)) := Lib.hid (by
        have := HQ.out
        rw [← List.drop_drop, ← this]
        rfl)
      have hC2 := hC.belowMono hbel hB
      have h2 := h.belowMono hbel hB
      have HPH := Lib.hid (partsHead_no (c := c') (w := wr) (at_ := a) hC2 (by omega) n1 n2)
      have HG := Lib.hid (fun (W : World) (hb : Below wr.heap.size wr W) => by
        have := get_any (c := c) (at_ := a) (c' := c') (w := W) (h2.belowMono hb (Nat.le_trans hB hbel.size)) (hC2.belowMono hb (Nat.le_trans hB hbel.size)) hnc (by omega) (Nat.le_trans hB (Nat.le_trans hbel.size hb.size)) (by omega) HNA.out
        rw [hS] at this
        exact this)
      have c0 := k1.cell 0
      have c1 := k1.cell 1
      clear HR HQ hr0 n1 n2 hR2 hS hC2 h2 hlsk
      go_wp2_with fail
      refine HPH.out.mono ?_
      rintro e w2 ⟨rfl, b2⟩
      have j1 := k1.below b2 k1.lt
      have j2 := k2.below b2 k2.lt
      have ho2 := own_below ho b2
      have hb2 := hbel.trans (b2.mono hbel.size)
      have d0 := j1.cell 0
      have d1 := j1.cell 1
      have hG := HG.out w2 b2
      clear c0 c1 k1 k2 ho HPH HG b2 hbel
      unfold cur at hG
      go_wp2_with fail
      refine hG.mono ?_
      rintro e w3 ⟨rfl, b3⟩
      have m1 := j1.below b3 j1.lt
      have m2 := j2.below b3 j2.lt
      have ho3 := own_below ho2 b3
      have hb3 := hb2.trans (b3.mono hb2.size)
      clear d0 d1 j1 j2 ho2 hG b3 hb2
      have e0 := m1.cell 0
      have e1 := m1.cell 1
      have f0 := m1.frozen 0
      have f1 := m1.frozen 1
      have hK3 : Keep (fun i => i = w.heap.size) w3 ((w3.setCell ⟨w.heap.size, 0, none⟩ (.slice A n c)).setCell ⟨w.heap.size, 1, none⟩ (.int .i64 a2)) := ((Keep.refl (fun i => i = w.heap.size) w3).setCell (p := ⟨w.heap.size, 0, none⟩) (fun _ => rfl) _).setCell (p := ⟨w.heap.size, 1, none⟩) (fun _ => rfl) _
      have ho4 := hK3.own ho3 fun i hi he => by subst he; have := (ho3.lt _ hi).1; omega
      have m1' := (m1.set_ 0 (.slice A n c)).set_ 1 (.int .i64 a2)
      have m2' := hK3.bk m2 (by omega)
      have hb4 : Below w.heap.size w _ := keep_below hb3 hb3.size hK3 fun i ht => by omega
      have hs4 := m2'.lt
      have hr5 : Rd (((w3.setCell ⟨w.heap.size, 0, none⟩ (.slice A n c)).setCell ⟨w.heap.size, 1, none⟩ (.int .i64 a2)).alloc (.cells #[.string ⟨t.toArray⟩] 9)) (w3.heap.size + 1) 1 (some ⟨w3.heap.size, 0, none⟩) 1 [.string ⟨t.toArray⟩] := by
        have := Rd.fresh ((w3.setCell ⟨w.heap.size, 0, none⟩ (.slice A n c)).setCell ⟨w.heap.size, 1, none⟩ (.int .i64 a2)) 9 1 1 [.string ⟨t.toArray⟩] rfl
        simpa using this
      clear m1 m2 ho3 hK3 hb3
      go_wp2_with (at_builtin; refine wpList_app strsRow rfl (.tmp 28) (.tmp 30) rfl rfl rfl (ho4.alloc _) hr5 ?_ ?_ ?_ ?_ ?_)
      · intro x hx; simp at hx; subst hx; rfl
      · unfold maxLen; omega
      · omega
      · simp at hs4 ⊢; omega
      intro v5 w5 o5 g5 b5
      have hx : Below (w.heap.size + 2) ((w3.setCell ⟨w.heap.size, 0, none⟩ (.slice A n c)).setCell ⟨w.heap.size, 1, none⟩ (.int .i64 a2)) w5 := ((Below.refl _ _).alloc (by simp at hs4 ⊢; omega) _).trans b5
      have p1 : Bk w5 w.heap.size 99 #[.slice A n c, .int .i64 (a2 : Nat)] := m1'.below hx (by omega)
      have p2 := m2'.below hx (by omega)
      have hb5 : Below w.heap.size w w5 := hb4.trans (hx.mono (by omega))
      have o6 : w5.ownsRow (w.heap.size + 2) 9 1 v5 (k + 1) ((ls.take (k + 1)).map tv) := by
        rw [HT.out, List.map_append]
        first | exact o5 | (rw [List.map_take]; exact o5)
      clear o5 g5 b5 hx m1' m2' hb4 ho4 e0 e1 f0 f1 HT
      go_wp2
      go_roundw
      case rel => exact ⟨k + 1, a2, q', by go_num, by omega, ha2, by simp at hql; omega, HQ2, o6, p1, p2, hb5, by rw [show m - (k + 1) = m - (k + 1) from rfl]; exact HR2⟩
      case measure => simp [Go.RowKit.intOf]; omega
    · obtain rfl : k = m := by omega
      have hr0 := HR.out
      rw [Nat.sub_self] at hr0
      have haa : a = a' := by
        have : (([] : List (List UInt8)), a, (0 : Int)) = (q, a', 0) := hr0
        exact congrArg (·.2.1) this
      subst haa
      rw [List.take_of_length_le (by omega)] at ho
      obtain ⟨Av, cv, rfl, -, -, -⟩ := own_form ho
      have c0 := k1.cell 0
      have c1 := k1.cell 1
      have d0 := k2.cell 0
      have d1 := k2.cell 1
      have z0 := k2.frozen 0
      have z1 := k2.frozen 1
      clear HR HQ hr0 h hC HNA
      go_wp2
      go_region
      all_goals
        go_wp2
        rw [jump_ret]
        have hK : Keep (fun i => i = w.heap.size + 1) wr _ := (((Keep.refl (fun i => i = w.heap.size + 1) wr).setCell (p := ⟨w.heap.size + 1, 0, none⟩) (fun _ => rfl) (.slice A n c)).setCell (p := ⟨w.heap.size + 1, 1, none⟩) (fun _ => rfl) (.int .i64 a)).drew
        have hbF : Below w.heap.size w _ := keep_below hbel hbel.size hK fun i ht => by omega
        have hoF := own_mono (hK.own ho fun i hi he => by subst he; have := (ho.lt _ hi).1; omega) (show w.heap.size ≤ _ by omega)
        refine bodyPost_ret (v := .tuple #[.slice Av k cv, .agg #[.slice A n c, .int .i64 a], .int .i64 0]) (by simp [results, Tryz.results53, go_sem, d0, d1]) rfl ?_
        exact ⟨_, rfl, hoF, hbF⟩
end Go.Proofs.YtllcecnkbndokaaGreatDoor
