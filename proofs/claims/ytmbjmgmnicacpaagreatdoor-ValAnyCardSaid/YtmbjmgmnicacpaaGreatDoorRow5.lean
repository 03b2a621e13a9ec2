/- Rows of digits in memory; the reference's Norm, big by their contracts. Condition: numbers within 64 bits. -/
/- The reference's trim, less, up by their contracts. Condition: the digits read as such, and are no more than a thousand. -/
/- The reference's plus, minus by their contracts. Condition: the digits read as such, and are no more than a thousand. -/
/- The reference's minus by its contract. Condition: the digits read as such, are no more than a thousand, and the one is not less. -/
/- The reference's less by its contract. Condition: the digits read as such, no noughts at the ends. -/
import Derived.Test.YtmbjmgmnicacpaaGreatDoorD2
import Derived.Test.YtmbjmgmnicacpaaGreatDoorDigOps
namespace Go.Proofs.YtmbjmgmnicacpaaGreatDoor
open Go.RowKit

/-- A digit in its cell. -/
def iv (d : Nat) : Value := .int .i64 (d : Int)
def dcs (l : List Nat) : List Value := l.map iv
theorem dcs_append (a b : List Nat) : dcs (a ++ b) = dcs a ++ dcs b := List.map_append
theorem dcs_one (l : List Nat) : ∀ u ∈ dcs l, u.oneCell' = true := by
  intro u hu
  obtain ⟨d, _, rfl⟩ := List.mem_map.1 hu
  rfl
theorem dcs_len (l : List Nat) : (dcs l).length = l.length := List.length_map ..
theorem rowInts : ElemRow Tryz.prog 81 3 (.int .i64 0) 1 8 := by
  obtain ⟨i, hi, h0, h1, h2⟩ := info_parts (P := Tryz.prog) (e := 3) (z := .int .i64 0) (size := 1) (bytes := 8) (by kernel_rfl)
  exact ⟨Tryz.underlying81, ⟨i, hi, h0, h1, h2⟩, rfl, by omega⟩
theorem Rd.dlen {w : World} {B n : Nat} {A : Option Addr} {l : List Nat} (h : Rd w B 1 A n (dcs l)) : n = l.length := by
  have := h.len
  rw [dcs_len] at this
  omega
theorem own_len {w : World} {base n : Nat} {v : Value} {l : List Nat} (h : w.ownsRow base 3 1 v n (dcs l)) : n = l.length := by
  have := h.1
  rw [dcs_len] at this
  omega
/-- An own row stays where a box of another type is written. -/
theorem own_set {w : World} {base g i k : Nat} {t : TypeId} {v u : Value} {l : List Value} {cs : Array Value} (ho : w.ownsRow base 3 1 v k l) (hk : Bk w g t cs) (hne : 3 ≠ t) : (w.setCell ⟨g, i, none⟩ u).ownsRow base 3 1 v k l :=
  ((Keep.refl (fun j => j = g) w).setCell (p := ⟨g, i, none⟩) (fun _ => rfl) u).own ho fun _j hj e => own_ne ho hk hne (e ▸ hj)
/-- An own row of a known form, to read. -/
theorem own_rd {w : World} {base n k c : Nat} {t : TypeId} {A : Option Addr} {l : List Value} (ho : w.ownsRow base t 1 (.slice A n c) k l) : Rd w w.heap.size 1 A k l := by
  obtain ⟨A', c', h, -, -, hr⟩ := own_form ho
  injection h with h1 h2 h3
  subst h1
  exact hr
/-- What is read stays where a box above it is written. -/
theorem Bk.other {w : World} {g g' i : Nat} {t : TypeId} {cs : Array Value} {u : Value} (h : Bk w g t cs) (hne : g ≠ g') : Bk (w.setCell ⟨g', i, none⟩ u) g t cs := by
  unfold Bk at h ⊢
  rw [Below.heap_setCell w ⟨g', i, none⟩ u g hne]
  exact h

theorem big_cat {L : List Nat} {N q : Nat} (h : L ++ digs q = digs N) (hq : 0 < q) : (L ++ [q % 10]) ++ digs (q / 10) = digs N := by
  rw [← h, digs_pos hq]
  simp
theorem digs_20 {N : Nat} (h : N < 18446744073709551616) : (digs N).length ≤ 20 := digs_len.2 (by omega)

set_option maxHeartbeats 1000000 in
theorem big_any {w : World} {m : Int} (h0 : -9223372036854775808 ≤ m) (h1 : m ≤ 9223372036854775807) :
    Calls Tryz.prog 60 #[.int .i64 m] w fun e w' => ∃ A n c, e = .returned (.agg #[.bool (decide (m < 0)), .slice A n c]) ∧ n ≤ c ∧ c ≤ maxLen ∧ Rd w' w'.heap.size 1 A n (dcs (digs m.natAbs)) ∧ Below w.heap.size w w' := by
  obtain ⟨N, hN⟩ : ∃ N, m.natAbs = N := ⟨_, rfl⟩
  have hNb : N ≤ 9223372036854775808 := by omega
  have H20 := Lib.hid (digs_20 (N := N) (by omega))
  have HS : Hid ((m < 0 ∧ IntKind.u64.wrap (-IntKind.u64.wrap m) = (N : Int)) ∨ (¬ m < 0 ∧ m = (N : Int))) := Lib.hid (by
    by_cases h : m < 0
    · exact .inl ⟨h, by rw [IntKind.wrap_u64, IntKind.wrap_u64]; omega⟩
    · exact .inr ⟨h, by omega⟩)
  rw [hN]
  clear hN
  go_enter Tryz.func60, Tryz.ntmps60
  rcases HS.out with ⟨h, hv⟩ | ⟨h, rfl⟩
  · have hd : decide (m < 0) = true := decide_eq_true h
    rw [hd]
    go_wp2
    go_loopw [4] (fun u wr => ∃ (q k : Nat) (v : Value) (L : List Nat), u = .int .u64 q ∧ q ≤ N ∧ wr.ownsRow w.heap.size 3 1 v k (dcs L) ∧ Bk wr w.heap.size 98 #[.bool false, .slice none 0 0] ∧ Bk wr (w.heap.size + 1) 98 #[.bool true, v] ∧ Below w.heap.size w wr ∧ Hid (L ++ digs q = digs N)) (fun u _ => (intOf u).toNat)
    case atStart =>
      have kz := Bk.new (w.alloc (.cells #[.bool false, .slice none 0 0] 98)) 98 #[.bool true, .slice none 0 0]
      simp only [World.size_alloc] at kz
      exact ⟨N, 0, _, [], rfl, Nat.le_refl _, World.ownsRow_nil _ _ _ _, (Bk.new w _ _).alloc _, kz, bel1 _ _ _, Lib.hid rfl⟩
    case round =>
      obtain ⟨q, k, v, L, rfl, hqN, ho, kr, kb, hbel, HL⟩ := hrel
      have hsz := hbel.size
      have hlt := kb.lt
      have c0 := kb.cell 0
      have c1 := kb.cell 1
      by_cases hq : 0 < q
      · have hq' : (0 : Int) < (q : Int) := by omega
        have hkb : k ≤ 20 := by
          have hk := own_len ho
          have h1 := H20.out
          rw [← HL.out, List.length_append] at h1
          omega
        go_wp2_with (at_builtin; refine wpList_app rowInts rfl (.tmp 17) (.tmp 21) rfl rfl rfl (ho.alloc _) (Rd.fresh _ _ 1 1 _ rfl) ?_ ?_ ?_ ?_ ?_)
        · intro u hu; simp at hu; subst hu; rfl
        · unfold maxLen; omega
        · omega
        · simp; omega
        intro v2 w2 o2 g2 b2
        have b2' := hbel.trans (((Below.refl w.heap.size wr).alloc hsz _).trans b2)
        have k2 := g2.bk (ho.alloc _) (kb.alloc _) (by decide)
        have kr2 := g2.bk (ho.alloc _) (kr.alloc _) (by decide)
        have HL2 := Lib.hid (big_cat HL.out hq)
        have o3 : w2.ownsRow w.heap.size 3 1 v2 (k + 1) (dcs (L ++ [q % 10])) := by
          simpa [dcs, iv] using o2
        obtain ⟨A2, c2, rfl, -, -, -⟩ := own_form o3
        have d0 := k2.cell 0
        have d1 := k2.cell 1
        have z1 := k2.frozen 1
        clear o2 b2 ho g2 c0 c1
        go_wp2
        go_roundw
        case rel =>
          refine ⟨q / 10, k + 1, _, _, by go_num, by omega, own_set o3 k2 (by decide), kr2.other (by omega), ?_, b2'.setCell (by simp) _, HL2⟩
          simpa using k2.set_ 1 (.slice A2 (k + 1) c2)
        case measure => simp [intOf]; omega
      · obtain rfl : q = 0 := by omega
        have HE : Hid (L = digs N) := Lib.hid (by have := HL.out; rw [digs_zero, List.append_nil] at this; exact this)
        obtain ⟨A, c, rfl, hnc, hcm, hrd⟩ := own_form ho
        have z0 := kr.frozen 0
        have z1 := kr.frozen 1
        have r0 := kr.cell 0
        have r1 := kr.cell 1
        clear HL
        go_wp2
        refine bodyPost_ret (v := .agg #[.bool true, .slice A k c]) (by simp [results, Tryz.results60, go_sem, r0, r1]) rfl ⟨A, k, c, rfl, hnc, hcm, ?_, (hbel.setCell (by simp) _).setCell (by simp) _⟩
        rw [← HE.out]
        exact own_rd (own_set (own_set ho kr (by decide)) (kr.set_ 0 _) (by decide))
  · have hd : decide ((N : Int) < 0) = false := decide_eq_false h
    rw [hd]
    go_wp2
    go_loopw [4] (fun u wr => ∃ (q k : Nat) (v : Value) (L : List Nat), u = .int .u64 q ∧ q ≤ N ∧ wr.ownsRow w.heap.size 3 1 v k (dcs L) ∧ Bk wr w.heap.size 98 #[.bool false, .slice none 0 0] ∧ Bk wr (w.heap.size + 1) 98 #[.bool false, v] ∧ Below w.heap.size w wr ∧ Hid (L ++ digs q = digs N)) (fun u _ => (intOf u).toNat)
    case atStart =>
      have kz := Bk.new (w.alloc (.cells #[.bool false, .slice none 0 0] 98)) 98 #[.bool false, .slice none 0 0]
      simp only [World.size_alloc] at kz
      exact ⟨N, 0, _, [], rfl, Nat.le_refl _, World.ownsRow_nil _ _ _ _, (Bk.new w _ _).alloc _, kz, bel1 _ _ _, Lib.hid rfl⟩
    case round =>
      obtain ⟨q, k, v, L, rfl, hqN, ho, kr, kb, hbel, HL⟩ := hrel
      have hsz := hbel.size
      have hlt := kb.lt
      have c0 := kb.cell 0
      have c1 := kb.cell 1
      by_cases hq : 0 < q
      · have hq' : (0 : Int) < (q : Int) := by omega
        have hkb : k ≤ 20 := by
          have hk := own_len ho
          have h1 := H20.out
          rw [← HL.out, List.length_append] at h1
          omega
        go_wp2_with (at_builtin; refine wpList_app rowInts rfl (.tmp 17) (.tmp 21) rfl rfl rfl (ho.alloc _) (Rd.fresh _ _ 1 1 _ rfl) ?_ ?_ ?_ ?_ ?_)
        · intro u hu; simp at hu; subst hu; rfl
        · unfold maxLen; omega
        · omega
        · simp; omega
        intro v2 w2 o2 g2 b2
        have b2' := hbel.trans (((Below.refl w.heap.size wr).alloc hsz _).trans b2)
        have k2 := g2.bk (ho.alloc _) (kb.alloc _) (by decide)
        have kr2 := g2.bk (ho.alloc _) (kr.alloc _) (by decide)
        have HL2 := Lib.hid (big_cat HL.out hq)
        have o3 : w2.ownsRow w.heap.size 3 1 v2 (k + 1) (dcs (L ++ [q % 10])) := by
          simpa [dcs, iv] using o2
        obtain ⟨A2, c2, rfl, -, -, -⟩ := own_form o3
        have d0 := k2.cell 0
        have d1 := k2.cell 1
        have z1 := k2.frozen 1
        clear o2 b2 ho g2 c0 c1
        go_wp2
        go_roundw
        case rel =>
          refine ⟨q / 10, k + 1, _, _, by go_num, by omega, own_set o3 k2 (by decide), kr2.other (by omega), ?_, b2'.setCell (by simp) _, HL2⟩
          simpa using k2.set_ 1 (.slice A2 (k + 1) c2)
        case measure => simp [intOf]; omega
      · obtain rfl : q = 0 := by omega
        have HE : Hid (L = digs N) := Lib.hid (by have := HL.out; rw [digs_zero, List.append_nil] at this; exact this)
        obtain ⟨A, c, rfl, hnc, hcm, hrd⟩ := own_form ho
        have z0 := kr.frozen 0
        have z1 := kr.frozen 1
        have r0 := kr.cell 0
        have r1 := kr.cell 1
        clear HL
        go_wp2
        refine bodyPost_ret (v := .agg #[.bool false, .slice A k c]) (by simp [results, Tryz.results60, go_sem, r0, r1]) rfl ⟨A, k, c, rfl, hnc, hcm, ?_, (hbel.setCell (by simp) _).setCell (by simp) _⟩
        rw [← HE.out]
        exact own_rd (own_set (own_set ho kr (by decide)) (kr.set_ 0 _) (by decide))
end Go.Proofs.YtmbjmgmnicacpaaGreatDoor
namespace Go.Proofs.YtmbjmgmnicacpaaGreatDoor
open Go.RowKit

theorem Rd.digAt {w : World} {B n i : Nat} {A : Option Addr} {l : List Nat} (h : Rd w B 1 A n (dcs l)) (hi : i < n) :
    ∃ a, A = some a ∧ a.block < B ∧ w.cell? (a.add i) = some (.int .i64 ((l.getD i 0 : Nat) : Int)) := by
  obtain ⟨a, u, ha, hb, hu, hc⟩ := h.cell hi
  refine ⟨a, ha, hb, ?_⟩
  have hl : i < l.length := by rw [← h.dlen]; exact hi
  rw [hc, ← hu]
  simp [dcs, iv, List.getD, List.getElem?_eq_getElem hl]

theorem Rd.top {w : World} {B n j : Nat} {A : Option Addr} {l : List Nat} (h : Rd w B 1 A n (dcs l)) (hj : j ≤ n) : Rd w B 1 A j (dcs (l.take j)) := by
  have hl := h.dlen
  refine ⟨by rw [dcs_len, List.length_take]; omega, fun h0 => ?_⟩
  obtain ⟨a, ha, hb, hc⟩ := h.at_ (by omega)
  refine ⟨a, ha, hb, fun i u hu => hc i u ?_⟩
  rw [← hu]
  have hi : i < j := by
    have := (List.getElem?_eq_some_iff.1 hu).1
    rw [dcs_len, List.length_take] at this
    omega
  simp [dcs, hi]

/-- A number in digits, as a value. -/
def BigV (w : World) (v : Value) (b : Bool) (l : List Nat) : Prop := ∃ A n c, v = .agg #[.bool b, .slice A n c] ∧ n ≤ c ∧ c ≤ maxLen ∧ Rd w w.heap.size 1 A n (dcs l)
theorem BigV.below {w w' : World} {v : Value} {b : Bool} {l : List Nat} (h : BigV w v b l) (hb : Below w.heap.size w w') : BigV w' v b l := by
  obtain ⟨A, n, c, h1, h2, h3, h4⟩ := h
  exact ⟨A, n, c, h1, h2, h3, (h4.below hb).mono hb.size⟩

theorem neat_take {l : List Nat} {j : Nat} (h : neat l = neat (l.take (j + 1))) (hj : j < l.length) (h0 : l.getD j 0 = 0) : neat l = neat (l.take j) := by
  rw [h, ← List.take_append_getElem hj, show l[j] = 0 by simpa [List.getD, List.getElem?_eq_getElem hj] using h0, neat_snoc_zero]
theorem neat_stop {l : List Nat} {j : Nat} (h : neat l = neat (l.take (j + 1))) (hj : j < l.length) (h0 : l.getD j 0 ≠ 0) : neat l = l.take (j + 1) := by
  have e : l[j] ≠ 0 := by simpa [List.getD, List.getElem?_eq_getElem hj] using h0
  rw [h, ← List.take_append_getElem hj, neat_snoc_pos e]

set_option maxHeartbeats 1000000 in
theorem trim_any {w : World} {x : Value} {b : Bool} {l : List Nat} (hx : BigV w x b l) :
    Calls Tryz.prog 55 #[x] w fun e w' => ∃ y, e = .returned y ∧ BigV w' y (b && !(neat l).isEmpty) (neat l) ∧ Below w.heap.size w w' := by
  obtain ⟨A, n, c, rfl, hnc, hcm, h⟩ := hx
  have HL := Lib.hid h.dlen
  have kb := (Bk.new w 98 #[.bool b, .slice A n c]).alloc (.cells #[.bool false, .slice none 0 0] 98)
  have kr := Bk.new (w.alloc (.cells #[.bool b, .slice A n c] 98)) 98 #[.bool false, .slice none 0 0]
  simp only [World.size_alloc] at kr
  have hbel := bel1 w (.cells #[.bool b, .slice A n c] 98) (.cells #[.bool false, .slice none 0 0] 98)
  have hr := (h.below hbel)
  have Hs := Lib.hid (show ((w.alloc (.cells #[.bool b, .slice A n c] 98)).alloc (.cells #[.bool false, .slice none 0 0] 98)).heap.size = w.heap.size + 2 by simp)
  go_enter Tryz.func55, Tryz.ntmps55
  go_wp2
  generalize ((w.alloc (.cells #[.bool b, .slice A n c] 98)).alloc (.cells #[.bool false, .slice none 0 0] 98)) = W at *
  have c0 := kb.cell 0
  have c1 := kb.cell 1
  have z0 := kb.frozen 0
  have z1 := kb.frozen 1
  have y0 := kr.frozen 0
  have y1 := kr.frozen 1
  have r0 := kr.cell 0
  have r1 := kr.cell 1
  go_loop [3] (fun i => ∃ j : Nat, j ≤ n ∧ i = .int .i64 j ∧ Hid (neat l = neat (l.take j))) (fun i => (intOf i).toNat)
  case atStart => exact ⟨n, Nat.le_refl _, rfl, Lib.hid (by rw [List.take_of_length_le (by rw [HL.out]; exact Nat.le_refl _)])⟩
  case round =>
    obtain ⟨j, hj, rfl, HN⟩ := hrel
    cases j with
    | zero =>
      have HE := Lib.hid (show neat l = [] by rw [HN.out]; rfl)
      clear HN
      go_wp2
      refine bodyPost_ret (v := .agg #[.bool false, .slice A 0 c]) (by simp [results, Tryz.results55, go_sem, r0, r1]) rfl ?_
      refine ⟨_, rfl, ⟨A, 0, c, by simp [HE.out], Nat.zero_le _, hcm, by rw [HE.out]; exact Rd.nil _ _ _ _⟩, ?_⟩
      exact (((hbel.setCell (by simp) _).setCell (by simp) _).setCell (by simp) _).setCell (by simp) _
    | succ j =>
      obtain ⟨a, rfl, ha, hc⟩ := hr.digAt (show j < n by omega)
      have hw : wrap64 (j : Int) = (j : Int) := IntWalk.wrap64_in _ ⟨by omega, by unfold maxLen at hcm; omega⟩
      by_cases hd : l.getD j 0 = 0
      · rw [hd] at hc
        have HN2 := Lib.hid (neat_take HN.out (by rw [← HL.out]; omega) hd)
        go_wp2
        go_round
        case rel => exact ⟨j, by omega, by rw [hw], HN2⟩
        case measure =>
          rw [hw]
          show (j : Int).toNat < ((j + 1 : Nat) : Int).toNat
          omega
      · have HE := Lib.hid (neat_stop HN.out (by rw [← HL.out]; omega) hd)
        have hd' : (((l.getD j 0 : Nat) : Int) == 0) = false := by simpa using hd
        clear HN hd
        generalize l.getD j 0 = d at *
        go_wp2
        refine bodyPost_ret (v := .agg #[.bool b, .slice (some a) (j + 1) c]) (by simp [results, Tryz.results55, go_sem, r0, r1]) rfl ?_
        have hb3 := (((Below.refl w.heap.size W).setCell (p := ⟨w.heap.size, 1, none⟩) (by simp) (.slice (some a) (j + 1) c)).setCell (p := ⟨w.heap.size + 1, 0, none⟩) (by simp) (.bool b)).setCell (p := ⟨w.heap.size + 1, 1, none⟩) (by simp) (.slice (some a) (j + 1) c)
        refine ⟨_, rfl, ⟨some a, j + 1, c, ?_, by omega, hcm, ?_⟩, hbel.trans hb3⟩
        · have hne : (neat l).isEmpty = false := by
            rw [HE.out, List.isEmpty_eq_false_iff]
            intro e
            have := congrArg List.length e
            rw [List.length_take, ← HL.out] at this
            simp at this
            omega
          rw [hne]
          simp
        · rw [HE.out]
          exact ((hr.top (by omega)).below hb3).mono (by have := hb3.size; have := Hs.out; omega)
end Go.Proofs.YtmbjmgmnicacpaaGreatDoor
namespace Go.Proofs.YtmbjmgmnicacpaaGreatDoor
open Go.RowKit

theorem getD_out {a : List Nat} {i n : Nat} (hn : n = a.length) (h : ¬ i < n) : a.getD i 0 = 0 := by
  simp [List.getD, List.getElem?_eq_none (show a.length ≤ i by omega)]
theorem digs_snoc {l : List Nat} {d : Nat} (h : Digs l) (hd : d < 10) : Digs (l ++ [d]) := h.append fun x hx => by
  obtain rfl := List.mem_singleton.1 hx
  exact hd

set_option maxHeartbeats 1000000 in
theorem plus_any {w : World} {n c n' c' : Nat} {A A' : Option Addr} {a b : List Nat} (ha : Rd w w.heap.size 1 A n (dcs a)) (hb : Rd w w.heap.size 1 A' n' (dcs b)) (da : Digs a) (db : Digs b) (hn : n ≤ 1000) (hn' : n' ≤ 1000) :
    Calls Tryz.prog 91 #[.slice A n c, .slice A' n' c'] w fun e w' => ∃ v k L, e = .returned v ∧ w'.ownsRow w.heap.size 3 1 v k (dcs L) ∧ Digs L ∧ dval L = dval a + dval b ∧ k ≤ 1001 ∧ Below w.heap.size w w' := by
  have HA := Lib.hid ha.dlen
  have HB := Lib.hid hb.dlen
  obtain ⟨M, hM1, hM2, hM3⟩ : ∃ M, n ≤ M ∧ n' ≤ M ∧ M ≤ 1000 := ⟨1000, hn, hn', Nat.le_refl _⟩
  go_enter Tryz.func91, Tryz.ntmps91
  go_wp2
  go_loopw [5, 6, 7] (fun out cc ii wr => ∃ (i q : Nat) (v : Value) (L : List Nat), out = v ∧ cc = .int .i64 q ∧ ii = .int .i64 i ∧ i ≤ M + 1 ∧ q ≤ 1 ∧ wr.ownsRow w.heap.size 3 1 v i (dcs L) ∧ Below w.heap.size w wr ∧ Hid (dval L + 10 ^ i * q = dval (a.take i) + dval (b.take i) ∧ Digs L ∧ (i = M + 1 → q = 0))) (fun _ _ ii _ => M + 1 - (intOf ii).toNat)
  case atStart => exact ⟨0, 0, _, [], rfl, rfl, rfl, by omega, by omega, World.ownsRow_nil _ _ _ _, Below.refl _ _, Lib.hid ⟨by simp [dval], (fun d hd => by cases hd), fun _ => rfl⟩⟩
  case round =>
    obtain ⟨i, q, v, L, rfl, rfl, rfl, hiM, hq1, ho, hbel, HF⟩ := hrel
    have hsz := hbel.size
    by_cases hi : i < n
    · by_cases hj : i < n'
      · have hx9 := getD_digit da i
        have hy9 := getD_digit db i
        have HP := Lib.hid (plus_step HF.out.1 (own_len ho).symm)
        obtain ⟨p, rfl, hp, hc⟩ := (ha.belowMono hbel (Nat.le_refl _)).digAt hi
        obtain ⟨p2, rfl, hp2, hc2⟩ := (hb.belowMono hbel (Nat.le_refl _)).digAt hj
        generalize a.getD i 0 = x at *
        generalize b.getD i 0 = y at *
        have hdg := Lib.hid (digs_snoc HF.out.2.1 (Nat.mod_lt (q + x + y) (show 0 < 10 by omega)))
        have HM := Lib.hid (show i + 1 = M + 1 → (q + x + y) / 10 = 0 by intro h; have := HF.out.2.2; omega)
        have hTq : (q + x + y) / 10 ≤ 1 := by omega
        go_wp2_with (at_builtin; refine wpList_app rowInts rfl (.tmp 44) (.tmp 47) rfl rfl rfl (ho.alloc _) (Rd.fresh _ _ 1 1 _ rfl) ?_ ?_ ?_ ?_ ?_)
        · intro u hu; simp at hu; subst hu; rfl
        · unfold maxLen; omega
        · omega
        · simp; omega
        intro v2 w2 o2 g2 b2
        have b2' := hbel.trans (((Below.refl w.heap.size wr).alloc hsz _).trans b2)
        have o3 : w2.ownsRow w.heap.size 3 1 v2 (i + 1) (dcs (L ++ [(q + x + y) % 10])) := by simpa [dcs, iv] using o2
        clear o2 b2 ho g2
        go_wp2
        go_roundw
        case rel => exact ⟨i + 1, (q + x + y) / 10, _, _, rfl, by push_cast; rfl, by go_num, by omega, hTq, o3, b2', Lib.hid ⟨HP.out, hdg.out, HM.out⟩⟩
        case measure => simp [intOf]; omega
      · have hx9 := getD_digit da i
        have hy9 := getD_digit db i
        have HP := Lib.hid (plus_step HF.out.1 (own_len ho).symm)
        have hy0 := getD_out HB.out hj
        obtain ⟨p, rfl, hp, hc⟩ := (ha.belowMono hbel (Nat.le_refl _)).digAt hi
        generalize a.getD i 0 = x at *
        generalize b.getD i 0 = y at *
        subst hy0
        simp only [Nat.add_zero] at HP
        have hdg := Lib.hid (digs_snoc HF.out.2.1 (Nat.mod_lt (q + x) (show 0 < 10 by omega)))
        have HM := Lib.hid (show i + 1 = M + 1 → (q + x) / 10 = 0 by intro h; have := HF.out.2.2; omega)
        have hTq : (q + x) / 10 ≤ 1 := by omega
        go_wp2_with (at_builtin; refine wpList_app rowInts rfl (.tmp 44) (.tmp 47) rfl rfl rfl (ho.alloc _) (Rd.fresh _ _ 1 1 _ rfl) ?_ ?_ ?_ ?_ ?_)
        · intro u hu; simp at hu; subst hu; rfl
        · unfold maxLen; omega
        · omega
        · simp; omega
        intro v2 w2 o2 g2 b2
        have b2' := hbel.trans (((Below.refl w.heap.size wr).alloc hsz _).trans b2)
        have o3 : w2.ownsRow w.heap.size 3 1 v2 (i + 1) (dcs (L ++ [(q + x) % 10])) := by simpa [dcs, iv] using o2
        clear o2 b2 ho g2
        go_wp2
        go_roundw
        case rel => exact ⟨i + 1, (q + x) / 10, _, _, rfl, by push_cast; rfl, by go_num, by omega, hTq, o3, b2', Lib.hid ⟨HP.out, hdg.out, HM.out⟩⟩
        case measure => simp [intOf]; omega
    · by_cases hj : i < n'
      · have hx9 := getD_digit da i
        have hy9 := getD_digit db i
        have HP := Lib.hid (plus_step HF.out.1 (own_len ho).symm)
        have hx0 := getD_out HA.out hi
        obtain ⟨p2, rfl, hp2, hc2⟩ := (hb.belowMono hbel (Nat.le_refl _)).digAt hj
        generalize a.getD i 0 = x at *
        generalize b.getD i 0 = y at *
        subst hx0
        simp only [Nat.add_zero] at HP
        have hdg := Lib.hid (digs_snoc HF.out.2.1 (Nat.mod_lt (q + y) (show 0 < 10 by omega)))
        have HM := Lib.hid (show i + 1 = M + 1 → (q + y) / 10 = 0 by intro h; have := HF.out.2.2; omega)
        have hTq : (q + y) / 10 ≤ 1 := by omega
        go_wp2_with (at_builtin; refine wpList_app rowInts rfl (.tmp 44) (.tmp 47) rfl rfl rfl (ho.alloc _) (Rd.fresh _ _ 1 1 _ rfl) ?_ ?_ ?_ ?_ ?_)
        · intro u hu; simp at hu; subst hu; rfl
        · unfold maxLen; omega
        · omega
        · simp; omega
        intro v2 w2 o2 g2 b2
        have b2' := hbel.trans (((Below.refl w.heap.size wr).alloc hsz _).trans b2)
        have o3 : w2.ownsRow w.heap.size 3 1 v2 (i + 1) (dcs (L ++ [(q + y) % 10])) := by simpa [dcs, iv] using o2
        clear o2 b2 ho g2
        go_wp2
        go_roundw
        case rel => exact ⟨i + 1, (q + y) / 10, _, _, rfl, by push_cast; rfl, by go_num, by omega, hTq, o3, b2', Lib.hid ⟨HP.out, hdg.out, HM.out⟩⟩
        case measure => simp [intOf]; omega
      · by_cases hq : 0 < q
        · have hx9 := getD_digit da i
          have hy9 := getD_digit db i
          have HP := Lib.hid (plus_step HF.out.1 (own_len ho).symm)
          have hx0 := getD_out HA.out hi
          have hy0 := getD_out HB.out hj
          generalize a.getD i 0 = x at *
          generalize b.getD i 0 = y at *
          subst hx0
          subst hy0
          simp only [Nat.add_zero] at HP
          have hdg := Lib.hid (digs_snoc HF.out.2.1 (Nat.mod_lt q (show 0 < 10 by omega)))
          have HM := Lib.hid (show i + 1 = M + 1 → q / 10 = 0 by intro h; have := HF.out.2.2; omega)
          have hTq : q / 10 ≤ 1 := by omega
          have hq0 : (0 : Int) < (q : Int) := by omega
          have hiM2 : i ≤ M := by have := HF.out.2.2; omega
          go_wp2_with (at_builtin; refine wpList_app rowInts rfl (.tmp 44) (.tmp 47) rfl rfl rfl (ho.alloc _) (Rd.fresh _ _ 1 1 _ rfl) ?_ ?_ ?_ ?_ ?_)
          · intro u hu; simp at hu; subst hu; rfl
          · unfold maxLen; omega
          · omega
          · simp; omega
          intro v2 w2 o2 g2 b2
          have b2' := hbel.trans (((Below.refl w.heap.size wr).alloc hsz _).trans b2)
          have o3 : w2.ownsRow w.heap.size 3 1 v2 (i + 1) (dcs (L ++ [q % 10])) := by simpa [dcs, iv] using o2
          clear o2 b2 ho g2
          go_wp2
          go_roundw
          case rel => exact ⟨i + 1, q / 10, _, _, rfl, by push_cast; rfl, by go_num, by omega, hTq, o3, b2', Lib.hid ⟨HP.out, hdg.out, HM.out⟩⟩
          case measure => simp [intOf]; omega
        · obtain rfl : q = 0 := by omega
          have HE := Lib.hid (plus_end HF.out.1 (by rw [← HA.out]; omega) (by rw [← HB.out]; omega))
          have HD := Lib.hid HF.out.2.1
          clear HF
          go_wp2
          go_ret
          exact ⟨_, _, _, rfl, ho, HD.out, HE.out, by omega, hbel⟩
end Go.Proofs.YtmbjmgmnicacpaaGreatDoor
namespace Go.Proofs.YtmbjmgmnicacpaaGreatDoor
open Go.RowKit

set_option maxHeartbeats 1000000 in
theorem minus_any {w : World} {n c n' c' : Nat} {A A' : Option Addr} {a b : List Nat} (ha : Rd w w.heap.size 1 A n (dcs a)) (hb : Rd w w.heap.size 1 A' n' (dcs b)) (da : Digs a) (db : Digs b) (hn : n ≤ 1000) (hn' : n' ≤ n) (hle : dval b ≤ dval a) :
    Calls Tryz.prog 93 #[.slice A n c, .slice A' n' c'] w fun e w' => ∃ v k L, e = .returned v ∧ w'.ownsRow w.heap.size 3 1 v k (dcs L) ∧ Digs L ∧ dval L = dval a - dval b ∧ k ≤ 1001 ∧ Below w.heap.size w w' := by
  have HA := Lib.hid ha.dlen
  have HB := Lib.hid hb.dlen
  go_enter Tryz.func93, Tryz.ntmps93
  go_wp2
  go_loopw [5, 6, 7] (fun out cc ii wr => ∃ (i q : Nat) (v : Value) (L : List Nat), out = v ∧ cc = .int .i64 q ∧ ii = .int .i64 i ∧ i ≤ n ∧ q ≤ 1 ∧ wr.ownsRow w.heap.size 3 1 v i (dcs L) ∧ Below w.heap.size w wr ∧ Hid (dval L + dval (b.take i) = dval (a.take i) + 10 ^ i * q ∧ Digs L)) (fun _ _ ii _ => n - (intOf ii).toNat)
  case atStart => exact ⟨0, 0, _, [], rfl, rfl, rfl, by omega, by omega, World.ownsRow_nil _ _ _ _, Below.refl _ _, Lib.hid ⟨by simp [dval], (fun d hd => by cases hd)⟩⟩
  case round =>
    obtain ⟨i, q, v, L, rfl, rfl, rfl, hiM, hq1, ho, hbel, HF⟩ := hrel
    have hsz := hbel.size
    by_cases hi : i < n
    · by_cases hj : i < n'
      · by_cases hneg : a.getD i 0 < q + b.getD i 0
        · have hx9 := getD_digit da i
          have hy9 := getD_digit db i
          have HP := @minus_step a b L i q HF.out.1 (own_len ho).symm
          obtain ⟨p, rfl, hp, hc⟩ := (ha.belowMono hbel (Nat.le_refl _)).digAt hi
          obtain ⟨p2, rfl, hp2, hc2⟩ := (hb.belowMono hbel (Nat.le_refl _)).digAt hj
          generalize a.getD i 0 = x at *
          generalize b.getD i 0 = y at *
          have HP2 := Lib.hid (@HP (10 + x - (q + y)) 1 (by omega))
          have hdg := Lib.hid (digs_snoc HF.out.2 (show 10 + x - (q + y) < 10 by omega))
          have hd : ((10 + x - (q + y) : Nat) : Int) = (x : Int) - (q : Int) - (y : Int) + 10 := by omega
          clear HP
          go_wp2_with (at_builtin; refine wpList_app rowInts rfl (.tmp 35) (.tmp 37) rfl rfl rfl (ho.alloc _) (Rd.fresh _ _ 1 1 _ rfl) ?_ ?_ ?_ ?_ ?_)
          · intro u hu; simp at hu; subst hu; rfl
          · unfold maxLen; omega
          · omega
          · simp; omega
          intro v2 w2 o2 g2 b2
          have b2' := hbel.trans (((Below.refl w.heap.size wr).alloc hsz _).trans b2)
          have o3 : w2.ownsRow w.heap.size 3 1 v2 (i + 1) (dcs (L ++ [10 + x - (q + y)])) := by
            rw [dcs_append, show dcs [10 + x - (q + y)] = [.int .i64 ((x : Int) - (q : Int) - (y : Int) + 10)] by simp only [dcs, iv, List.map_cons, List.map_nil, hd]]
            exact o2
          clear o2 b2 ho g2 hd
          go_wp2
          go_roundw
          case rel => exact ⟨i + 1, 1, _, _, rfl, rfl, by go_num, by omega, by omega, o3, b2', Lib.hid ⟨HP2.out, hdg.out⟩⟩
          case measure => simp [intOf]; omega
        · have hx9 := getD_digit da i
          have hy9 := getD_digit db i
          have HP := @minus_step a b L i q HF.out.1 (own_len ho).symm
          obtain ⟨p, rfl, hp, hc⟩ := (ha.belowMono hbel (Nat.le_refl _)).digAt hi
          obtain ⟨p2, rfl, hp2, hc2⟩ := (hb.belowMono hbel (Nat.le_refl _)).digAt hj
          generalize a.getD i 0 = x at *
          generalize b.getD i 0 = y at *
          have HP2 := Lib.hid (@HP (x - (q + y)) 0 (by omega))
          have hdg := Lib.hid (digs_snoc HF.out.2 (show x - (q + y) < 10 by omega))
          have hd : ((x - (q + y) : Nat) : Int) = (x : Int) - (q : Int) - (y : Int) := by omega
          clear HP
          go_wp2_with (at_builtin; refine wpList_app rowInts rfl (.tmp 35) (.tmp 37) rfl rfl rfl (ho.alloc _) (Rd.fresh _ _ 1 1 _ rfl) ?_ ?_ ?_ ?_ ?_)
          · intro u hu; simp at hu; subst hu; rfl
          · unfold maxLen; omega
          · omega
          · simp; omega
          intro v2 w2 o2 g2 b2
          have b2' := hbel.trans (((Below.refl w.heap.size wr).alloc hsz _).trans b2)
          have o3 : w2.ownsRow w.heap.size 3 1 v2 (i + 1) (dcs (L ++ [x - (q + y)])) := by
            rw [dcs_append, show dcs [x - (q + y)] = [.int .i64 ((x : Int) - (q : Int) - (y : Int))] by simp only [dcs, iv, List.map_cons, List.map_nil, hd]]
            exact o2
          clear o2 b2 ho g2 hd
          go_wp2
          go_roundw
          case rel => exact ⟨i + 1, 0, _, _, rfl, rfl, by go_num, by omega, by omega, o3, b2', Lib.hid ⟨HP2.out, hdg.out⟩⟩
          case measure => simp [intOf]; omega
      · by_cases hneg : a.getD i 0 < q
        · have hx9 := getD_digit da i
          have hy9 := getD_digit db i
          have HP := @minus_step a b L i q HF.out.1 (own_len ho).symm
          obtain ⟨p, rfl, hp, hc⟩ := (ha.belowMono hbel (Nat.le_refl _)).digAt hi
          have hy0 := getD_out HB.out hj
          generalize a.getD i 0 = x at *
          generalize b.getD i 0 = y at *
          subst hy0
          have HP2 := Lib.hid (@HP (10 + x - (q)) 1 (by omega))
          have hdg := Lib.hid (digs_snoc HF.out.2 (show 10 + x - (q) < 10 by omega))
          have hd : ((10 + x - (q) : Nat) : Int) = (x : Int) - (q : Int) + 10 := by omega
          clear HP
          go_wp2_with (at_builtin; refine wpList_app rowInts rfl (.tmp 35) (.tmp 37) rfl rfl rfl (ho.alloc _) (Rd.fresh _ _ 1 1 _ rfl) ?_ ?_ ?_ ?_ ?_)
          · intro u hu; simp at hu; subst hu; rfl
          · unfold maxLen; omega
          · omega
          · simp; omega
          intro v2 w2 o2 g2 b2
          have b2' := hbel.trans (((Below.refl w.heap.size wr).alloc hsz _).trans b2)
          have o3 : w2.ownsRow w.heap.size 3 1 v2 (i + 1) (dcs (L ++ [10 + x - (q)])) := by
            rw [dcs_append, show dcs [10 + x - (q)] = [.int .i64 ((x : Int) - (q : Int) + 10)] by simp only [dcs, iv, List.map_cons, List.map_nil, hd]]
            exact o2
          clear o2 b2 ho g2 hd
          go_wp2
          go_roundw
          case rel => exact ⟨i + 1, 1, _, _, rfl, rfl, by go_num, by omega, by omega, o3, b2', Lib.hid ⟨HP2.out, hdg.out⟩⟩
          case measure => simp [intOf]; omega
        · have hx9 := getD_digit da i
          have hy9 := getD_digit db i
          have HP := @minus_step a b L i q HF.out.1 (own_len ho).symm
          obtain ⟨p, rfl, hp, hc⟩ := (ha.belowMono hbel (Nat.le_refl _)).digAt hi
          have hy0 := getD_out HB.out hj
          generalize a.getD i 0 = x at *
          generalize b.getD i 0 = y at *
          subst hy0
          have HP2 := Lib.hid (@HP (x - (q)) 0 (by omega))
          have hdg := Lib.hid (digs_snoc HF.out.2 (show x - (q) < 10 by omega))
          have hd : ((x - (q) : Nat) : Int) = (x : Int) - (q : Int) := by omega
          clear HP
          go_wp2_with (at_builtin; refine wpList_app rowInts rfl (.tmp 35) (.tmp 37) rfl rfl rfl (ho.alloc _) (Rd.fresh _ _ 1 1 _ rfl) ?_ ?_ ?_ ?_ ?_)
          · intro u hu; simp at hu; subst hu; rfl
          · unfold maxLen; omega
          · omega
          · simp; omega
          intro v2 w2 o2 g2 b2
          have b2' := hbel.trans (((Below.refl w.heap.size wr).alloc hsz _).trans b2)
          have o3 : w2.ownsRow w.heap.size 3 1 v2 (i + 1) (dcs (L ++ [x - (q)])) := by
            rw [dcs_append, show dcs [x - (q)] = [.int .i64 ((x : Int) - (q : Int))] by simp only [dcs, iv, List.map_cons, List.map_nil, hd]]
            exact o2
          clear o2 b2 ho g2 hd
          go_wp2
          go_roundw
          case rel => exact ⟨i + 1, 0, _, _, rfl, rfl, by go_num, by omega, by omega, o3, b2', Lib.hid ⟨HP2.out, hdg.out⟩⟩
          case measure => simp [intOf]; omega
    · obtain rfl : i = n := by omega
      have HE := Lib.hid (minus_end (a := a) (b := b) (out := L) (c := q) (by rw [← HA.out]; exact HF.out.1) HF.out.2 (by rw [← HA.out]; exact (own_len ho).symm) (by rw [← HA.out, ← HB.out]; exact hn') hle)
      have HD := Lib.hid HF.out.2
      clear HF
      go_wp2
      go_ret
      exact ⟨_, _, _, rfl, ho, HD.out, HE.out.1, by omega, hbel⟩
end Go.Proofs.YtmbjmgmnicacpaaGreatDoor
namespace Go.Proofs.YtmbjmgmnicacpaaGreatDoor
open Go.RowKit

theorem drop_same {a b : List Nat} {j : Nat} (hl : a.length = b.length) (hj : j < a.length) (h : a.drop (j + 1) = b.drop (j + 1)) (he : a.getD j 0 = b.getD j 0) : a.drop j = b.drop j := by
  have hb : j < b.length := by omega
  rw [List.drop_eq_getElem_cons hj, List.drop_eq_getElem_cons hb, h]
  simp only [List.getD, List.getElem?_eq_getElem hj, List.getElem?_eq_getElem hb, Option.getD_some] at he
  rw [he]
set_option maxHeartbeats 1000000 in
theorem less_any {w : World} {n c n' c' : Nat} {A A' : Option Addr} {a b : List Nat} (ha : Rd w w.heap.size 1 A n (dcs a)) (hb : Rd w w.heap.size 1 A' n' (dcs b)) (da : Digs a) (db : Digs b) (na : Neat a) (nb : Neat b) (hn : n ≤ 1000) (hn' : n' ≤ 1000) :
    Calls Tryz.prog 92 #[.slice A n c, .slice A' n' c'] w fun e w' => e = .returned (.bool (lessL a b)) ∧ Below w.heap.size w w' := by
  have HA := Lib.hid ha.dlen
  have HB := Lib.hid hb.dlen
  by_cases hl : n = n'
  · subst hl
    have HL := Lib.hid (show a.length = b.length by rw [← HA.out, ← HB.out])
    go_enter Tryz.func92, Tryz.ntmps92
    go_wp2
    go_loopw [5] (fun ii wr => ∃ (j : Nat), ii = .int .i64 ((j : Int) - 1) ∧ j ≤ n ∧ Below w.heap.size w wr ∧ Hid (a.drop j = b.drop j)) (fun ii _ => (intOf ii + 1).toNat)
    case atStart => exact ⟨n, by go_num, Nat.le_refl _, Below.refl _ _, Lib.hid (by rw [List.drop_of_length_le (by rw [← HA.out]; exact Nat.le_refl _), List.drop_of_length_le (by rw [← HB.out]; exact Nat.le_refl _)])⟩
    case round =>
      obtain ⟨j, rfl, hj, hbel, HD⟩ := hrel
      cases j with
      | zero =>
        have HE := Lib.hid (show lessL a b = false by
          have := HD.out
          simp only [List.drop_zero] at this
          rw [this]; exact less_same)
        go_wp2
        go_ret
        exact ⟨by rw [HE.out]; rfl, hbel⟩
      | succ j =>
        rw [show (((j + 1 : Nat) : Int) - 1) = (j : Int) by omega]
        obtain ⟨p, rfl, hp, hc⟩ := (ha.belowMono hbel (Nat.le_refl _)).digAt (show j < n by omega)
        obtain ⟨p2, rfl, hp2, hc2⟩ := (hb.belowMono hbel (Nat.le_refl _)).digAt (show j < n by omega)
        by_cases he : a.getD j 0 = b.getD j 0
        · have HD2 := Lib.hid (drop_same HL.out (by rw [← HA.out]; omega) HD.out he)
          rw [he] at hc
          generalize b.getD j 0 = y at *
          go_wp2_with fail
          go_region
          all_goals
            go_wp2
            go_roundw
            case rel => exact ⟨j, by go_num, by omega, hbel.drew, HD2⟩
            case measure => simp [intOf]
        · have HE := Lib.hid (less_top da db HL.out (by rw [← HA.out]; omega) HD.out he)
          generalize a.getD j 0 = x at *
          generalize b.getD j 0 = y at *
          have he' : ((x : Int) == (y : Int)) = false := by simp; omega
          go_wp2_with fail
          go_region
          all_goals
            go_wp2_with fail
            go_region
            all_goals
              go_wp2
              go_ret
              refine ⟨?_, hbel.drew.drew⟩
              rw [HE.out]
              simp
  · have HE := Lib.hid (show lessL a b = decide (n < n') by rw [HA.out, HB.out]; exact less_len da db na nb (by rw [← HA.out, ← HB.out]; exact hl))
    have hl' : ((n : Int) == (n' : Int)) = false := by simp; omega
    go_enter Tryz.func92, Tryz.ntmps92
    go_wp2
    go_ret
    refine ⟨?_, Below.refl _ _⟩
    rw [HE.out]
    simp
end Go.Proofs.YtmbjmgmnicacpaaGreatDoor
