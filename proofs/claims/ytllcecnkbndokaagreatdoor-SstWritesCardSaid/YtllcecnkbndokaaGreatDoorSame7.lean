/- slices.Equal, rec.Same by their contracts. Conditions: the slices read as lists; they are no longer than 10^18. -/
import Derived.Test.YtllcecnkbndokaaGreatDoorRec7
namespace Go.Proofs.YtllcecnkbndokaaGreatDoor
open Go.RowKit

theorem Rd.drewN {w : World} {B k n : Nat} {A : Option Addr} {xs : List Value} (h : Rd w B k A n xs) (d : Nat) : Rd (w.drewN d) B k A n xs := ⟨h.len, h.at_⟩

theorem Rd.ilen {w : World} {B n : Nat} {A : Option Addr} {l : List Int} (h : Rd w B 1 A n (l.map iv)) : l.length = n := by have := h.len; simp at this; exact this

theorem take_next {l l' : List Int} {k : Nat} {x y : Int} (h : l.take k = l'.take k) (hx : l[k]? = some x) (hy : l'[k]? = some y) (e : x = y) : l.take (k + 1) = l'.take (k + 1) := by
  rw [List.take_add_one, List.take_add_one, h, hx, hy, e]

theorem equal_any {w : World} {B n c n' c' : Nat} {A A' : Option Addr} {l l' : List UInt8} (h : Rd w B 1 A n (l.map bv)) (h' : Rd w B 1 A' n' (l'.map bv)) :
    Calls Tryz.prog 55 #[.slice A n c, .slice A' n' c'] w fun e w' => e = .returned (.bool (decide (l = l'))) ∧ w = w' := by
  have e1 := run_str (c := c) h
  have e2 := run_str (c := c') h'
  have e3 := strOf_eq l l'
  go_enter Tryz.func55, Tryz.ntmps55
  go_wp2
  go_ret
  exact ⟨rfl, rfl⟩

theorem sliceEqual_any {w : World} {B n c n' c' : Nat} {A A' : Option Addr} {l l' : List Int} (h : Rd w B 1 A n (l.map iv)) (h' : Rd w B 1 A' n' (l'.map iv)) (hn : n ≤ 1000000000000000000) (hn' : n' ≤ 1000000000000000000) :
    Calls Tryz.prog 56 #[.slice A n c, .slice A' n' c'] w fun e w' => e = .returned (.bool (decide (l = l'))) ∧ ∃ d, w' = w.drewN d := by
  by_cases hnn : n = n'
  · subst hnn
    have hb : ((n : Int) != (n : Int)) = false := by simp
    go_enter Tryz.func56, Tryz.ntmps56
    go_wp2
    go_loopw [13] (fun i wr => ∃ k d : Nat, k ≤ n ∧ i = .int .i64 k ∧ wr = w.drewN d ∧ Hid (l.take k = l'.take k)) (fun i _ => n - (intOf i).toNat)
    case atStart => exact ⟨0, 0, Nat.zero_le _, rfl, rfl, rfl⟩
    case round =>
      obtain ⟨k, d, hk, rfl, rfl, HE⟩ := hrel
      by_cases hkn : k < n
      · obtain ⟨a, x, rfl, _, hc, hx, _⟩ := h.intAt hkn
        obtain ⟨a', y, rfl, _, hc', hy, _⟩ := h'.intAt hkn
        have hkn' : (k : Int) < (n : Int) := by omega
        by_cases hxy : x = y
        · have HE' := Lib.hid (take_next HE.out hx hy hxy)
          have hb : (x != y) = false := by simp [hxy]
          clear hxy hx hy HE h h'
          go_wp2
          go_quiet (fail)
          go_wp2
          go_roundw
          case rel => exact ⟨k + 1, _, by omega, by go_num, rfl, HE'⟩
          case measure => simp [intOf]; omega
        · have hb : (x != y) = true := by simp [hxy]
          have hne : decide (l = l') = false := by
            simp only [decide_eq_false_iff_not]
            rintro rfl
            rw [hx] at hy
            exact hxy (by injection hy)
          have HN := Lib.hid hne
          clear hxy hx hy HE h h' hne
          go_wp2
          go_quiet (fail)
          go_wp2
          go_ret
          exact ⟨by rw [HN.out]; rfl, _, World.drewN_drewN _ _ _⟩
      · have hkk : k = n := by omega
        subst hkk
        have hl := h.ilen
        have hl' := h'.ilen
        have heq : decide (l = l') = true := by
          have := HE.out
          rw [List.take_of_length_le (by omega), List.take_of_length_le (by omega)] at this
          simpa using this
        have HN := Lib.hid heq
        clear heq h h' HE hl hl'
        go_wp2
        go_ret
        exact ⟨by rw [HN.out]; rfl, _, rfl⟩
  · have hb : ((n : Int) != (n' : Int)) = true := by rw [bne_iff_ne]; omega
    have hne : decide (l = l') = false := by
      simp only [decide_eq_false_iff_not]
      rintro rfl
      exact hnn (h.ilen.symm.trans h'.ilen)
    have HN := Lib.hid hne
    clear hne
    go_enter Tryz.func56, Tryz.ntmps56
    go_wp2
    go_ret
    exact ⟨by rw [HN.out]; rfl, 0, rfl⟩

def sameM (a b : RecM) : Bool := decide (a.type = b.type) && decide (a.data = b.data) && decide (a.cuts = b.cuts)

theorem same_any {w : World} {B : Nat} {r s : RecM} {D C D' C' : Option Addr} {dc cc dc' cc' : Nat} (h : RecRd w B r D dc C cc) (h' : RecRd w B s D' dc' C' cc') (hB : B ≤ w.heap.size) :
    Calls Tryz.prog 34 #[.agg #[.int .i64 r.type, .slice D r.data.length dc, .slice C r.cuts.length cc, .int .i64 r.at_],
        .agg #[.int .i64 s.type, .slice D' s.data.length dc', .slice C' s.cuts.length cc', .int .i64 s.at_]] w fun e w' => e = .returned (.bool (sameM r s)) ∧ Below w.heap.size w w' := by
  have hbel : ∀ o o', Below w.heap.size w ((w.alloc o).alloc o') := fun o o' => ((Below.refl _ _).alloc (Nat.le_refl _) o).alloc (by simp) o'
  have hdr : ∀ o o' d, Below w.heap.size w (((w.alloc o).alloc o').drewN d) := fun o o' d => ⟨(hbel o o').os, (hbel o o').tape, (hbel o o').output, (hbel o o').size, (hbel o o').block⟩
  have q1 := fun o o' => h.data.belowMono (hbel o o') hB
  have q2 := fun o o' => h'.data.belowMono (hbel o o') hB
  have q3 := fun o o' => h.cuts.belowMono (hbel o o') hB
  have q4 := fun o o' => h'.cuts.belowMono (hbel o o') hB
  have l1 := h.ccap.2
  have l2 := h'.ccap.2
  obtain ⟨t, data, cuts, at_⟩ := r
  obtain ⟨t', data', cuts', at'⟩ := s
  simp only at *
  by_cases ht : t = t'
  · have hb : (t == t') = true := by simp [ht]
    by_cases hd : data = data'
    · have hbd : decide (data = data') = true := by simpa using hd
      have HF := Lib.hid (show sameM ⟨t, data, cuts, at_⟩ ⟨t', data', cuts', at'⟩ = decide (cuts = cuts') by simp [sameM, ht, hd])
      clear ht hd h h'
      generalize data.length = n1 at *
      generalize data'.length = n2 at *
      generalize cuts.length = n3 at *
      generalize cuts'.length = n4 at *
      go_enter Tryz.func34, Tryz.ntmps34
      go_wp2_with (first | (go_at_call 55; refine (equal_any (q1 _ _) (q2 _ _)).mono ?_; rintro e w' ⟨rfl, rfl⟩) | (go_at_call 56; refine (sliceEqual_any (q3 _ _) (q4 _ _) l1 l2).mono ?_; rintro e w' ⟨rfl, d, rfl⟩))
      go_ret
      exact ⟨by rw [HF.out]; rfl, hdr _ _ _⟩
    · have hbd : decide (data = data') = false := by simpa using hd
      have HF := Lib.hid (show sameM ⟨t, data, cuts, at_⟩ ⟨t', data', cuts', at'⟩ = false by simp [sameM, ht, hd])
      clear ht hd h h'
      generalize data.length = n1 at *
      generalize data'.length = n2 at *
      generalize cuts.length = n3 at *
      generalize cuts'.length = n4 at *
      go_enter Tryz.func34, Tryz.ntmps34
      go_wp2_with (go_at_call 55; refine (equal_any (q1 _ _) (q2 _ _)).mono ?_; rintro e w' ⟨rfl, rfl⟩)
      go_ret
      exact ⟨by rw [HF.out]; rfl, hbel _ _⟩
  · have hb : (t == t') = false := by simpa using ht
    have HF := Lib.hid (show sameM ⟨t, data, cuts, at_⟩ ⟨t', data', cuts', at'⟩ = false by simp [sameM, ht])
    clear ht h h'
    generalize data.length = n1 at *
    generalize data'.length = n2 at *
    generalize cuts.length = n3 at *
    generalize cuts'.length = n4 at *
    go_enter Tryz.func34, Tryz.ntmps34
    go_wp2
    go_ret
    exact ⟨by rw [HF.out]; rfl, hbel _ _⟩

end Go.Proofs.YtllcecnkbndokaaGreatDoor
