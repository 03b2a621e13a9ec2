/- cashbooklaw7.Of, Ints, Same, few by their contracts. Conditions: the rows read as such. -/
import Derived.Test.YtllcecnkbndokaaGreatDoorDec
namespace Go.Proofs.YtllcecnkbndokaaGreatDoor
open Go.RowKit Go.Lib

theorem of_any {w : World} {n c : Nat} {A : Option Addr} {u : Int} :
    Calls Tryz.prog 16 #[.agg #[.slice A n c, .int .i64 u]] w fun e w' => e = .returned (.agg #[.slice A n c, .int .i64 u]) ∧ Below w.heap.size w w' := by
  go_enter Tryz.func16, Tryz.ntmps16
  go_wp2
  have hbF := two_below w (.cells #[.slice A n c, .int .i64 u] 34) (.cells #[.slice A n c, .int .i64 u] 24)
  refine bodyPost_ret (v := .agg #[.slice A n c, .int .i64 u]) (by simp [results, Tryz.results16, go_sem]) rfl ?_
  exact ⟨rfl, hbF⟩

theorem nv_iv (ps : List Nat) : ps.map nv = (ps.map fun (p : Nat) => (p : Int)).map iv := by rw [List.map_map]; rfl
set_option maxHeartbeats 4000000 in
theorem ints_any {w : World} {B n c n' c' : Nat} {A A' : Option Addr} {l l' : List Int} (h : Rd w B 1 A n (l.map iv)) (h' : Rd w B 1 A' n' (l'.map iv)) (hn : n ≤ 1000000000000000000) (hn' : n' ≤ 1000000000000000000) :
    Calls Tryz.prog 17 #[.slice A n c, .slice A' n' c'] w fun e w' => e = .returned (.bool (decide (l = l'))) ∧ Below w.heap.size w w' := by
  by_cases hnn : n = n'
  · subst hnn
    have hb : ((n : Int) != (n : Int)) = false := by simp
    go_enter Tryz.func17, Tryz.ntmps17
    go_wp2
    go_loopw [5] (fun i wr => ∃ k d : Nat, k ≤ n ∧ i = .int .i64 k ∧ wr = w.drewN d ∧ Hid (l.take k = l'.take k)) (fun i _ => n - (Go.RowKit.intOf i).toNat)
    case atStart => exact ⟨0, 0, Nat.zero_le _, rfl, rfl, rfl⟩
    case round =>
      obtain ⟨k, d, hk, rfl, rfl, HE⟩ := hrel
      by_cases hkn : k < n
      · obtain ⟨a, x, rfl, _, hc, hx, _⟩ := h.intAt hkn
        obtain ⟨a', y, rfl, _, hc', hy, _⟩ := h'.intAt hkn
        have hkn' : (k : Int) < (n : Int) := by omega
        by_cases hxy : x = y
        · have HE' := Lib.hid (take_next HE.out hx hy hxy)
          have hb : (x != y) = false := by simp [hxy]
          clear hxy hx hy HE h h'
          go_wp2
          go_quiet (fail)
          go_wp2
          go_roundw
          case rel => exact ⟨k + 1, _, by omega, by go_num, rfl, HE'⟩
          case measure => simp [Go.RowKit.intOf]; omega
        · have hb : (x != y) = true := by simp [hxy]
          have hne : decide (l = l') = false := by
            simp only [decide_eq_false_iff_not]
            rintro rfl
            rw [hx] at hy
            exact hxy (by injection hy)
          have HN := Lib.hid hne
          clear hxy hx hy HE h h' hne
          go_wp2
          go_quiet (fail)
          go_wp2
          go_ret
          exact ⟨by rw [HN.out]; rfl, by rw [World.drewN_drewN]; exact below_refl_drewN _ _⟩
      · have hkk : k = n := by omega
        subst hkk
        have hl := h.ilen
        have hl' := h'.ilen
        have heq : decide (l = l') = true := by
          have := HE.out
          rw [List.take_of_length_le (by omega), List.take_of_length_le (by omega)] at this
          simpa using this
        have HN := Lib.hid heq
        clear heq h h' HE hl hl'
        go_wp2
        go_ret
        exact ⟨by rw [HN.out]; rfl, below_refl_drewN _ _⟩
  · have hb : ((n : Int) != (n' : Int)) = true := by rw [bne_iff_ne]; omega
    have hne : decide (l = l') = false := by
      simp only [decide_eq_false_iff_not]
      rintro rfl
      exact hnn (h.ilen.symm.trans h'.ilen)
    have HN := Lib.hid hne
    clear hne
    go_enter Tryz.func17, Tryz.ntmps17
    go_wp2
    go_ret
    exact ⟨by rw [HN.out]; rfl, Below.refl _ _⟩

theorem Rd.tvAt {w : World} {B n i : Nat} {A : Option Addr} {L : List (List UInt8)} (h : Rd w B 1 A n (L.map tv)) (hi : i < n) : ∃ (a : Addr) (l : List UInt8), A = some a ∧ a.block < B ∧ L[i]? = some l ∧ w.cell? (a.add i) = some (.string (strOf l)) := by
  obtain ⟨a, s, ha, hb, hs, hc⟩ := h.strAt hi
  exact ⟨a, _, ha, hb, hs, by rw [hc]; unfold strOf; rw [back_str]⟩
theorem take_next' {α : Type} {l l' : List α} {k : Nat} {x y : α} (h : l.take k = l'.take k) (hx : l[k]? = some x) (hy : l'[k]? = some y) (e : x = y) : l.take (k + 1) = l'.take (k + 1) := by
  rw [List.take_add_one, List.take_add_one, h, hx, hy, e]

set_option maxHeartbeats 8000000 in
set_option maxRecDepth 100000 in
theorem sameTab_any {w : World} {B n c n' c' : Nat} {A A' : Option Addr} {L L' : List (List UInt8)} {u u' : Int} (h : Rd w B 1 A n (L.map tv)) (h' : Rd w B 1 A' n' (L'.map tv)) (hB : B ≤ w.heap.size) (hn : n ≤ 1000000) (hn' : n' ≤ 1000000) :
    Calls Tryz.prog 15 #[.agg #[.slice A n c, .int .i64 u], .agg #[.slice A' n' c', .int .i64 u']] w fun e w' => e = .returned (.bool (decide (u = u') && decide (L = L'))) ∧ Below w.heap.size w w' := by
  have hb2 := two_below w (.cells #[.slice A n c, .int .i64 u] 24) (.cells #[.slice A' n' c', .int .i64 u'] 24)
  by_cases hu : u = u'
  · subst hu
    have hbu : (u != u) = false := by simp
    by_cases hnn : n = n'
    · subst hnn
      have hb : ((n : Int) != (n : Int)) = false := by simp
      rw [decide_eq_true rfl, Bool.true_and]
      have q := h.belowMono hb2 hB
      have q' := h'.belowMono hb2 hB
      have k1 : Bk ((w.alloc (.cells #[.slice A n c, .int .i64 u] 24)).alloc (.cells #[.slice A' n c', .int .i64 u] 24)) w.heap.size 24 #[.slice A n c, .int .i64 u] := (Bk.new w _ _).alloc _
      have k2 : Bk ((w.alloc (.cells #[.slice A n c, .int .i64 u] 24)).alloc (.cells #[.slice A' n c', .int .i64 u] 24)) (w.heap.size + 1) 24 #[.slice A' n c', .int .i64 u] := by
        have := Bk.new (w.alloc (.cells #[.slice A n c, .int .i64 u] 24)) 24 #[.slice A' n c', .int .i64 u]
        rwa [show (w.alloc (.cells #[.slice A n c, .int .i64 u] 24)).heap.size = w.heap.size + 1 by simp] at this
      go_enter Tryz.func15, Tryz.ntmps15
      go_wp2
      generalize hW : (w.alloc (.cells #[.slice A n c, .int .i64 u] 24)).alloc (.cells #[.slice A' n c', .int .i64 u] 24) = W at *
      go_loopw [5] (fun i wr => ∃ k d : Nat, k ≤ n ∧ i = .int .i64 k ∧ wr = W.drewN d ∧ Hid (L.take k = L'.take k)) (fun i _ => n - (Go.RowKit.intOf i).toNat)
      case atStart => exact ⟨0, 0, Nat.zero_le _, rfl, rfl, rfl⟩
      case round =>
        obtain ⟨k, d, hk, rfl, rfl, HE⟩ := hrel
        have hbd := below_drewN hb2 d
        have c10 := k1.cell 0
        have c20 := k2.cell 0
        by_cases hkn : k < n
        · obtain ⟨a, x, rfl, _, hx, hc⟩ := q.tvAt hkn
          obtain ⟨a', y, rfl, _, hy, hc'⟩ := q'.tvAt hkn
          have hkn' : (k : Int) < (n : Int) := by omega
          have e3 := strOf_eq x y
          by_cases hxy : x = y
          · have HE' := Lib.hid (take_next' HE.out hx hy hxy)
            rw [decide_eq_true hxy] at e3
            clear hxy hx hy HE h h' q q' k1 k2 hW hb2
            go_wp2
            go_quiet (fail)
            go_wp2
            go_roundw
            case rel => exact ⟨k + 1, _, by omega, by go_num, rfl, HE'⟩
            case measure => simp [Go.RowKit.intOf]; omega
          · rw [decide_eq_false hxy] at e3
            have hne : decide (L = L') = false := by
              simp only [decide_eq_false_iff_not]
              rintro rfl
              rw [hx] at hy
              exact hxy (by injection hy)
            have HN := Lib.hid hne
            clear hxy hx hy HE h h' hne q q' k1 k2 hW
            go_wp2
            go_quiet (fail)
            go_wp2
            go_ret
            exact ⟨by rw [HN.out]; rfl, by rw [World.drewN_drewN]; exact below_drewN hb2 _⟩
        · have hkk : k = n := by omega
          subst hkk
          have hl := h.tlen
          have hl' := h'.tlen
          have heq : decide (L = L') = true := by
            have := HE.out
            rw [List.take_of_length_le (by omega), List.take_of_length_le (by omega)] at this
            simpa using this
          have HN := Lib.hid heq
          clear heq h h' HE hl hl' q q' k1 k2 hW hb2
          go_wp2
          go_ret
          exact ⟨by rw [HN.out]; rfl, hbd⟩
    · have hb : ((n : Int) != (n' : Int)) = true := by rw [bne_iff_ne]; omega
      have hne : (decide (u = u) && decide (L = L')) = false := by
        rw [decide_eq_true rfl, Bool.true_and]
        simp only [decide_eq_false_iff_not]
        rintro rfl
        exact hnn (h.tlen.symm.trans h'.tlen)
      rw [hne]
      clear hne
      go_enter Tryz.func15, Tryz.ntmps15
      go_wp2
      go_ret
      exact ⟨rfl, hb2⟩
  · have hbu : (u != u') = true := by simpa using hu
    rw [decide_eq_false hu, Bool.false_and]
    go_enter Tryz.func15, Tryz.ntmps15
    go_wp2
    go_ret
    exact ⟨rfl, hb2⟩

/-- Few texts, and short. -/
def totL (L : List (List UInt8)) : Nat := (L.map List.length).sum
def fewB (L : List (List UInt8)) : Bool := decide (L.length ≤ 100) && decide (totL L ≤ 20000)
theorem totL_take {L : List (List UInt8)} {k : Nat} {l : List UInt8} (h : L[k]? = some l) : totL (L.take (k + 1)) = totL (L.take k) + l.length := by
  have hi := List.getElem?_eq_some_iff.1 h
  rw [← List.take_append_getElem hi.1, hi.2]
  simp [totL]
theorem totL_le {L : List (List UInt8)} (k : Nat) : totL (L.take k) ≤ totL L := by
  have : totL L = totL (L.take k) + totL (L.drop k) := by
    have e : L.map List.length = (L.take k).map List.length ++ (L.drop k).map List.length := by rw [← List.map_append, List.take_append_drop]
    unfold totL
    rw [e, List.sum_append]
  omega
theorem fewB_len {L : List (List UInt8)} (h : fewB L = true) : L.length ≤ 100 ∧ ∀ l ∈ L, l.length ≤ 20000 := by
  unfold fewB at h
  simp only [Bool.and_eq_true, decide_eq_true_eq] at h
  refine ⟨h.1, fun l hl => ?_⟩
  obtain ⟨i, hi⟩ := List.getElem?_of_mem hl
  have h1 := totL_take hi
  have h2 := totL_le (L := L) (i + 1)
  omega
set_option maxHeartbeats 4000000 in
set_option maxRecDepth 100000 in
theorem few_any {w : World} {B n c : Nat} {A : Option Addr} {L : List (List UInt8)} (h : Rd w B 1 A n (L.map tv)) (hsz : ∀ l ∈ L, l.length ≤ 1000000000000000) :
    Calls Tryz.prog 6 #[.slice A n c] w fun e w' => e = .returned (.bool (fewB L)) ∧ w = w' := by
  have hl := h.tlen
  by_cases hn : 100 < n
  · have HF := Lib.hid (show fewB L = false by unfold fewB; rw [decide_eq_false (by omega), Bool.false_and])
    have hn' : (100 : Int) < (n : Int) := by omega
    go_enter Tryz.func6, Tryz.ntmps6
    go_wp2
    go_ret
    exact ⟨by rw [HF.out]; rfl, rfl⟩
  · have hn' : ¬ (100 : Int) < (n : Int) := by omega
    have HF := Lib.hid (show fewB L = decide (totL L ≤ 20000) by unfold fewB; rw [decide_eq_true (by omega), Bool.true_and])
    go_enter Tryz.func6, Tryz.ntmps6
    go_wp2
    go_loop [3, 4] (fun t i => ∃ k m : Nat, k ≤ n ∧ i = .int .i64 k ∧ t = .int .i64 m ∧ m ≤ 20000 ∧ Hid (m = totL (L.take k))) (fun _ i => n - (Go.RowKit.intOf i).toNat)
    case atStart => exact ⟨0, 0, Nat.zero_le _, rfl, rfl, by omega, Lib.hid (by simp [totL])⟩
    case round =>
      obtain ⟨k, m, hk, rfl, rfl, hm, HM⟩ := hrel
      by_cases hkn : k < n
      · have hkn' : (k : Int) < (n : Int) := by omega
        obtain ⟨a, s, rfl, _, hx, hc⟩ := h.strAt hkn
        have ht := totL_take hx
        have hss : s.size ≤ 1000000000000000 := by have := hsz _ (List.mem_of_getElem? hx); simpa using this
        have hle := totL_le (L := L) (k + 1)
        have hsl : s.data.toList.length = s.size := by simp
        by_cases hbig : 20000 < m + s.size
        · have hbig' : (20000 : Int) < (m : Int) + (s.size : Int) := by omega
          have HB : Hid (decide (totL L ≤ 20000) = false) := Lib.hid (decide_eq_false (by have := HM.out; omega))
          clear hx ht hle hsl HM h hsz
          go_wp2
          go_ret
          exact ⟨by rw [HF.out, HB.out]; rfl, rfl⟩
        · have hbig' : ¬ (20000 : Int) < (m : Int) + (s.size : Int) := by omega
          have HM2 : Hid (m + s.size = totL (L.take (k + 1))) := Lib.hid (by have := HM.out; omega)
          clear hx ht hle hsl HM h hsz
          go_wp2
          go_round
          case rel => exact ⟨k + 1, m + s.size, by omega, by go_num, by go_num, by omega, HM2⟩
          case measure => simp [Go.RowKit.intOf]; omega
      · obtain rfl : k = n := by omega
        have HB : Hid (decide (totL L ≤ 20000) = true) := Lib.hid (decide_eq_true (by have := HM.out; rw [List.take_of_length_le (by omega)] at this; omega))
        clear HM h hsz
        go_wp2
        go_ret
        exact ⟨by rw [HF.out, HB.out]; rfl, rfl⟩
end Go.Proofs.YtllcecnkbndokaaGreatDoor
