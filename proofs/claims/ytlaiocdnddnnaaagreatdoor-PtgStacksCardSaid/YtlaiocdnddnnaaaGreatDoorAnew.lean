/- str.getFlags by its contract. Condition: the bytes read as such; the Cursor stands in them. -/
/- str.getFlagsAnew by its contract. Condition: the bytes and the cuts read as such, no cut stands right behind another one; the Cursor stands in the bytes. -/
import Derived.Test.YtlaiocdnddnnaaaGreatDoorCutS
set_option linter.unusedVariables false
set_option linter.unusedSimpArgs false
namespace Go.Proofs.YtlaiocdnddnnaaaGreatDoor
open Go.RowKit Go.Lib
def rdF (l : List UInt8) (at_ : Nat) : Nat × Nat × Int :=
  if at_ < l.length then (if (l.getD at_ 0).toNat ≤ 1 then ((l.getD at_ 0).toNat, at_ + 1, 0) else (0, at_, 2)) else (0, at_, 5)
def cur (A : Option Addr) (n c : Nat) (at_ : Nat) : Value := .agg #[.slice A n c, .int .i64 at_]
set_option maxHeartbeats 4000000 in
set_option maxRecDepth 100000 in
theorem getFlags_of {w : World} {n c : Nat} {A : Option Addr} {a0 a1 v : Nat} {e1 : Int} {R : Value}
    (HU : ∀ W, Below w.heap.size w W → Calls Tryz.prog 102 #[cur A n c a0] W fun e w' => e = .returned (.tuple #[.int .i64 v, cur A n c a1, .int .i64 e1]) ∧ Below W.heap.size W w')
    (hR : (e1 ≠ 0 ∧ R = .tuple #[.int .i64 v, cur A n c a1, .int .i64 e1]) ∨ (e1 = 0 ∧ v ≤ 1 ∧ R = .tuple #[.int .i64 v, cur A n c a1, .int .i64 0]) ∨ (e1 = 0 ∧ 2 ≤ v ∧ R = .tuple #[.int .i64 0, cur A n c a0, .int .i64 2])) :
    Calls Tryz.prog 136 #[cur A n c a0] w fun e w' => e = .returned R ∧ Below w.heap.size w w' := by
  unfold cur at *; have HC := Lib.hid (HU _ (two_below w (.cells #[.slice A n c, .int .i64 a0] 82) (.cells #[.slice none 0 0, .int .i64 0] 82))); clear HU
  rcases hR with ⟨h0, rfl⟩ | ⟨rfl, h0, rfl⟩ | ⟨rfl, h0, rfl⟩
  · go_enter Tryz.func136, Tryz.ntmps136
    go_wp2_with fail
    refine HC.out.mono ?_; rintro e w1 ⟨rfl, hb1⟩; obtain ⟨k1, k2, hb', s1⟩ := two_boxes hb1; clear HC; have k2' := k2.alloc (.cells #[.slice A n c, .int .i64 a1] 82); have k3 := Bk.new w1 82 #[.slice A n c, .int .i64 a1]; have hbW := hb'.alloc hb'.size (.cells #[.slice A n c, .int .i64 a1] 82); go_wp2; generalize w1.alloc (.cells #[.slice A n c, .int .i64 a1] 82) = W at *; have f0 := k3.cell 0; have f1 := k3.cell 1; have d0 := k2'.cell 0; have d1 := k2'.cell 1; have z0 := k2'.frozen 0; have z1 := k2'.frozen 1
    go_region
    all_goals
      go_wp2; exact bodyPost_ret (v := .tuple #[.int .i64 v, .agg #[.slice A n c, .int .i64 a1], .int .i64 e1]) (by simp [results, Tryz.results136, go_sem, d0, d1]) rfl ⟨rfl, ((hbW.setCell (by simp) _).setCell (by simp) _).drew⟩
  · have hv : v = 0 ∨ v = 1 := by omega
    rcases hv with rfl | rfl
    · go_enter Tryz.func136, Tryz.ntmps136
      go_wp2_with fail
      refine HC.out.mono ?_; rintro e w1 ⟨rfl, hb1⟩; obtain ⟨k1, k2, hb', s1⟩ := two_boxes hb1; clear HC; have k2' := k2.alloc (.cells #[.slice A n c, .int .i64 a1] 82); have k3 := Bk.new w1 82 #[.slice A n c, .int .i64 a1]; have hbW := hb'.alloc hb'.size (.cells #[.slice A n c, .int .i64 a1] 82); go_wp2; generalize w1.alloc (.cells #[.slice A n c, .int .i64 a1] 82) = W at *; have f0 := k3.cell 0; have f1 := k3.cell 1; have d0 := k2'.cell 0; have d1 := k2'.cell 1; have z0 := k2'.frozen 0; have z1 := k2'.frozen 1
      go_region
      all_goals
        go_wp2; exact bodyPost_ret (v := .tuple #[.int .i64 (0 : Nat), .agg #[.slice A n c, .int .i64 a1], .int .i64 0]) (by simp [results, Tryz.results136, go_sem, d0, d1]) rfl ⟨rfl, ((hbW.setCell (by simp) _).setCell (by simp) _).drew⟩
    · go_enter Tryz.func136, Tryz.ntmps136
      go_wp2_with fail
      refine HC.out.mono ?_; rintro e w1 ⟨rfl, hb1⟩; obtain ⟨k1, k2, hb', s1⟩ := two_boxes hb1; clear HC; have k2' := k2.alloc (.cells #[.slice A n c, .int .i64 a1] 82); have k3 := Bk.new w1 82 #[.slice A n c, .int .i64 a1]; have hbW := hb'.alloc hb'.size (.cells #[.slice A n c, .int .i64 a1] 82); go_wp2; generalize w1.alloc (.cells #[.slice A n c, .int .i64 a1] 82) = W at *; have f0 := k3.cell 0; have f1 := k3.cell 1; have d0 := k2'.cell 0; have d1 := k2'.cell 1; have z0 := k2'.frozen 0; have z1 := k2'.frozen 1
      go_region
      all_goals
        go_wp2; exact bodyPost_ret (v := .tuple #[.int .i64 (1 : Nat), .agg #[.slice A n c, .int .i64 a1], .int .i64 0]) (by simp [results, Tryz.results136, go_sem, d0, d1]) rfl ⟨rfl, ((hbW.setCell (by simp) _).setCell (by simp) _).drew⟩
  · obtain ⟨V, hV⟩ : ∃ V : Int, (v : Int) = V := ⟨_, rfl⟩
    rw [hV] at HC; have hv0 : (V != 0) = true := by simp; omega
    have hv1 : (V != 1) = true := by simp; omega
    clear hV h0; go_enter Tryz.func136, Tryz.ntmps136
    go_wp2_with fail
    refine HC.out.mono ?_; rintro e w1 ⟨rfl, hb1⟩; obtain ⟨k1, k2, hb', s1⟩ := two_boxes hb1; clear HC; have k1' := k1.alloc (.cells #[.slice A n c, .int .i64 a1] 82); have k2' := k2.alloc (.cells #[.slice A n c, .int .i64 a1] 82); have hbW := hb'.alloc hb'.size (.cells #[.slice A n c, .int .i64 a1] 82); go_wp2; generalize w1.alloc (.cells #[.slice A n c, .int .i64 a1] 82) = W at *; have f0 := k1'.cell 0; have f1 := k1'.cell 1; have d0 := k2'.cell 0; have d1 := k2'.cell 1; have z0 := k2'.frozen 0; have z1 := k2'.frozen 1
    go_region
    all_goals
      go_wp2; exact bodyPost_ret (v := .tuple #[.int .i64 0, .agg #[.slice A n c, .int .i64 a0], .int .i64 2]) (by simp [results, Tryz.results136, go_sem, d0, d1]) rfl ⟨rfl, ((hbW.setCell (by simp) _).setCell (by simp) _).drew⟩
theorem getFlags_any {w : World} {B n c at_ : Nat} {A : Option Addr} {l : List UInt8} (h : Rd w B 1 A n (l.map bv)) (hnc : n ≤ c) (hn : n ≤ 1000000000000000000) (hB : B ≤ w.heap.size) (ha : at_ ≤ n) :
    Calls Tryz.prog 136 #[cur A n c at_] w fun e w' => e = .returned (.tuple #[.int .i64 (rdF l at_).1, cur A n c (rdF l at_).2.1, .int .i64 (rdF l at_).2.2]) ∧ Below w.heap.size w w' := by
  have hl := h.blen
  by_cases h1 : at_ < n
  · obtain ⟨e1, e2, e3⟩ := u8_in hl h1
    have HU : ∀ W, Below w.heap.size w W → Calls Tryz.prog 102 #[cur A n c at_] W fun e w' => e = .returned (.tuple #[.int .i64 ((l.getD at_ 0).toNat : Nat), cur A n c (at_ + 1), .int .i64 0]) ∧ Below W.heap.size W w' := fun W hb => by
      have := u8_any (at_ := (at_ : Int)) (h.belowMono hb hB) hnc hn (Nat.le_trans hB hb.size); rw [e1, e2, e3] at this; exact this
    refine getFlags_of HU ?_; unfold rdF; rw [if_pos (by omega)]
    by_cases h2 : (l.getD at_ 0).toNat ≤ 1
    · rw [if_pos h2]; exact .inr (.inl ⟨rfl, h2, rfl⟩)
    · rw [if_neg h2]; exact .inr (.inr ⟨rfl, by omega, rfl⟩)
  · obtain rfl : at_ = n := by omega
    obtain ⟨e1, e2, e3⟩ := u8_end hl
    have HU : ∀ W, Below w.heap.size w W → Calls Tryz.prog 102 #[cur A at_ c at_] W fun e w' => e = .returned (.tuple #[.int .i64 ((0 : Nat) : Int), cur A at_ c at_, .int .i64 5]) ∧ Below W.heap.size W w' := fun W hb => by
      have := u8_any (at_ := (at_ : Int)) (h.belowMono hb hB) hnc hn (Nat.le_trans hB hb.size); rw [e1, e2, e3] at this; exact this
    refine getFlags_of HU ?_; unfold rdF; rw [if_neg (by omega)]; exact .inl ⟨by decide, rfl⟩
end Go.Proofs.YtlaiocdnddnnaaaGreatDoor
namespace Go.Proofs.YtlaiocdnddnnaaaGreatDoor
open Go.RowKit Go.Lib
def rdA (l : List UInt8) (cs : List Int) (fl at_ : Nat) : Nat × Nat × Int := if cs.contains (at_ : Int) = true then rdF l at_ else (fl, at_, 0)
theorem Bk.setOther {w : World} {g : Nat} {t : TypeId} {cs : Array Value} (h : Bk w g t cs) {p : Addr} (hp : p.block ≠ g) (u : Value) : Bk (w.setCell p u) g t cs := by
  unfold Bk at *; rw [Below.heap_setCell w p u g (Ne.symm hp), h]
theorem rdF_at (l : List UInt8) (at_ : Nat) (h : (rdF l at_).2.2 = 0) : (rdF l at_).2.1 = at_ + 1 ∧ at_ < l.length ∧ (rdF l at_).1 ≤ 1 := by
  unfold rdF at h ⊢
  by_cases h1 : at_ < l.length
  · rw [if_pos h1] at h ⊢
    by_cases h2 : (l.getD at_ 0).toNat ≤ 1
    · rw [if_pos h2]; exact ⟨rfl, h1, h2⟩
    · rw [if_neg h2] at h; cases h
  · rw [if_neg h1] at h; cases h
set_option maxHeartbeats 4000000 in
set_option maxRecDepth 100000 in
theorem anew_any {w : World} {B n c at_ n' c' fl : Nat} {A A' : Option Addr} {l : List UInt8} {cs : List Int} (h : Rd w B 1 A n (l.map bv)) (hC : CutS w B A' n' cs) (hnc : n ≤ c) (hn : n ≤ 1000000000000000000) (hB : B ≤ w.heap.size) (ha : at_ ≤ n) (hna : cs.contains (at_ : Int) = true → cs.contains ((at_ + 1 : Nat) : Int) = false) :
    Calls Tryz.prog 137 #[cur A n c at_, .slice A' n' c', .int .i64 fl] w fun e w' => e = .returned (.tuple #[.int .i64 (rdA l cs fl at_).1, cur A n c (rdA l cs fl at_).2.1, .int .i64 (rdA l cs fl at_).2.2]) ∧ Below w.heap.size w w' := by
  have HI : ∀ x : Int, Hid (∀ W, Below w.heap.size w W → Calls Tryz.prog 143 #[.slice A' n' c', .int .i64 x] W fun e w' => e = .returned (.bool (cs.contains x)) ∧ Below W.heap.size W w') := fun x => Lib.hid fun W hb => isCut_any (hC.belowMono hb hB); have hbel0 := two_below w (.cells #[.slice A n c, .int .i64 at_] 82) (.cells #[.slice none 0 0, .int .i64 0] 82); have k30 := (Bk.new w 82 #[.slice A n c, .int .i64 at_]).alloc (.cells #[.slice none 0 0, .int .i64 0] 82)
  have k70 : Bk ((w.alloc (.cells #[.slice A n c, .int .i64 at_] 82)).alloc (.cells #[.slice none 0 0, .int .i64 0] 82)) (w.heap.size + 1) 82 #[.slice none 0 0, .int .i64 0] := by
    have := Bk.new (w.alloc (.cells #[.slice A n c, .int .i64 at_] 82)) 82 #[.slice none 0 0, .int .i64 0]
    simpa using this
  cases hct : cs.contains (at_ : Int)
  · have e1 : rdA l cs fl at_ = (fl, at_, 0) := by unfold rdA; rw [hct]; rfl
    rw [e1]; have H0 := HI at_; rw [hct] at H0; clear HI e1 hct hna h hC; unfold cur; go_enter Tryz.func137, Tryz.ntmps137; go_wp2; generalize (w.alloc (.cells #[.slice A n c, .int .i64 at_] 82)).alloc (.cells #[.slice none 0 0, .int .i64 0] 82) = W0 at *
    go_loopg [2, 9] 1 (fun _ s2 s9 wr => s2 = .int .i64 fl ∧ s9 = .int .i64 0 ∧ Bk wr w.heap.size 82 #[.slice A n c, .int .i64 at_] ∧ Bk wr (w.heap.size + 1) 82 #[.slice none 0 0, .int .i64 0] ∧ Below w.heap.size w wr)
    case atStart => exact ⟨rfl, rfl, k30, k70, hbel0⟩
    case round =>
      obtain ⟨rfl, rfl, hk3, hk7, hbel⟩ := hrel; have hs3 := hk3.lt; have hs7 := hk7.lt; have f0 := hk3.cell 0; have f1 := hk3.cell 1
      go_wp2_with fail
      refine (H0.out wr hbel).mono ?_; rintro e w5 ⟨rfl, hb5⟩; have hk3b := hk3.below hb5 (by omega); have hk7b := hk7.below hb5 (by omega); have hbel5 := hbel.trans (hb5.mono (by omega)); clear f0 f1 hk3 hk7 hb5 hbel; have f0 := hk3b.cell 0; have f1 := hk3b.cell 1; have d0 := hk7b.cell 0; have d1 := hk7b.cell 1; have z0 := hk7b.frozen 0; have z1 := hk7b.frozen 1; go_wp2
      go_region
      all_goals
        go_wp2; exact bodyPost_ret (v := .tuple #[.int .i64 fl, .agg #[.slice A n c, .int .i64 at_], .int .i64 0]) (by simp [results, Tryz.results137, go_sem, d0, d1]) rfl ⟨rfl, ((hbel5.setCell (by simp) _).setCell (by simp) _).drew⟩
  · have e1 : rdA l cs fl at_ = rdF l at_ := by unfold rdA; rw [hct]; rfl
    rw [e1]; have H0 := HI at_; rw [hct] at H0
    have H1 : (rdF l at_).2.2 = 0 → Hid (∀ W, Below w.heap.size w W → Calls Tryz.prog 143 #[.slice A' n' c', .int .i64 ((rdF l at_).2.1 : Int)] W fun e w' => e = .returned (.bool false) ∧ Below W.heap.size W w') := fun h0 => by
      have := HI ((rdF l at_).2.1 : Int); rw [(rdF_at l at_ h0).1, hna hct] at this; rw [(rdF_at l at_ h0).1]; exact this
    have HF := Lib.hid (fun (W : World) (hb : Below w.heap.size w W) => getFlags_any (h.belowMono hb hB) hnc hn (Nat.le_trans hB hb.size) ha); clear HI e1 hct hna h hC; generalize rdF l at_ = R at *; obtain ⟨v, a1, er⟩ := R; unfold cur at *; simp only at *
    by_cases her : er = 0
    · subst her; have H2 := H1 rfl; clear H1; go_enter Tryz.func137, Tryz.ntmps137; go_wp2; generalize (w.alloc (.cells #[.slice A n c, .int .i64 at_] 82)).alloc (.cells #[.slice none 0 0, .int .i64 0] 82) = W0 at *
      go_loopg [2, 9] 2 (fun g s2 s9 wr => Bk wr (w.heap.size + 1) 82 #[.slice none 0 0, .int .i64 0] ∧ Below w.heap.size w wr ∧ ((1 < g ∧ s2 = .int .i64 fl ∧ s9 = .int .i64 0 ∧ Bk wr w.heap.size 82 #[.slice A n c, .int .i64 at_]) ∨ (s2 = .int .i64 v ∧ s9 = .int .i64 0 ∧ Bk wr w.heap.size 82 #[.slice A n c, .int .i64 a1])))
      case atStart => exact ⟨k70, hbel0, .inl ⟨by omega, rfl, rfl, k30⟩⟩
      case round =>
        obtain ⟨hk7, hbel, ⟨hg, rfl, rfl, hk3⟩ | ⟨rfl, rfl, hk3⟩⟩ := hrel
        · have hs3 := hk3.lt; have hs7 := hk7.lt; have f0 := hk3.cell 0; have f1 := hk3.cell 1
          go_wp2_with fail
          refine (H0.out wr hbel).mono ?_; rintro e w5 ⟨rfl, hb5⟩; have hk3b := hk3.below hb5 (by omega); have hk7b := hk7.below hb5 (by omega); have hbel5 := hbel.trans (hb5.mono (by omega)); clear f0 f1 hk3 hk7 hb5 hbel; have hs5 := hk3b.lt; have hs57 := hk7b.lt; have f0 := hk3b.cell 0; have f1 := hk3b.cell 1
          go_wp2_with fail
          refine (HF.out w5 hbel5).mono ?_; rintro e w6 ⟨rfl, hb6⟩; have hk3c := hk3b.below hb6 (by omega); have hk7c := hk7b.below hb6 (by omega); have hbel6 := hbel5.trans (hb6.mono (by omega)); clear f0 f1 hk3b hk7b hb6 hbel5; have hs6 := hk3c.lt; have z0 := hk3c.frozen 0; have z1 := hk3c.frozen 1; have f0 := hk3c.cell 0; have f1 := hk3c.cell 1
          have k3n : Bk ((w6.setCell ⟨w.heap.size, 0, none⟩ (.slice A n c)).setCell ⟨w.heap.size, 1, none⟩ (.int .i64 a1)) w.heap.size 82 #[.slice A n c, .int .i64 a1] := by
            have := (hk3c.set_ 0 (.slice A n c)).set_ 1 (.int .i64 a1)
            simpa using this
          have k7n : Bk ((w6.setCell ⟨w.heap.size, 0, none⟩ (.slice A n c)).setCell ⟨w.heap.size, 1, none⟩ (.int .i64 a1)) (w.heap.size + 1) 82 #[.slice none 0 0, .int .i64 0] := (hk7c.setOther (by simp) _).setOther (by simp) _; have hbeln := (hbel6.setCell (p := ⟨w.heap.size, 0, none⟩) (Nat.le_refl _) (.slice A n c)).setCell (p := ⟨w.heap.size, 1, none⟩) (Nat.le_refl _) (.int .i64 a1); go_wp2
          go_roundg 1
          case measure => omega
          case rel => exact ⟨k7n, hbeln, .inr ⟨rfl, rfl, k3n⟩⟩
        · have hs3 := hk3.lt; have hs7 := hk7.lt; have f0 := hk3.cell 0; have f1 := hk3.cell 1
          go_wp2_with fail
          refine (H2.out wr hbel).mono ?_; rintro e w5 ⟨rfl, hb5⟩; have hk3b := hk3.below hb5 (by omega); have hk7b := hk7.below hb5 (by omega); have hbel5 := hbel.trans (hb5.mono (by omega)); clear f0 f1 hk3 hk7 hb5 hbel; have f0 := hk3b.cell 0; have f1 := hk3b.cell 1; have d0 := hk7b.cell 0; have d1 := hk7b.cell 1; have z0 := hk7b.frozen 0; have z1 := hk7b.frozen 1; go_wp2
          go_region
          all_goals
            go_wp2; exact bodyPost_ret (v := .tuple #[.int .i64 v, .agg #[.slice A n c, .int .i64 a1], .int .i64 0]) (by simp [results, Tryz.results137, go_sem, d0, d1]) rfl ⟨rfl, ((hbel5.setCell (by simp) _).setCell (by simp) _).drew⟩
    · go_enter Tryz.func137, Tryz.ntmps137; go_wp2; generalize (w.alloc (.cells #[.slice A n c, .int .i64 at_] 82)).alloc (.cells #[.slice none 0 0, .int .i64 0] 82) = W0 at *
      go_loopg [2, 9] 2 (fun g s2 s9 wr => Bk wr (w.heap.size + 1) 82 #[.slice none 0 0, .int .i64 0] ∧ Below w.heap.size w wr ∧ ((1 < g ∧ s2 = .int .i64 fl ∧ s9 = .int .i64 0 ∧ Bk wr w.heap.size 82 #[.slice A n c, .int .i64 at_]) ∨ (s2 = .int .i64 v ∧ s9 = .int .i64 er ∧ Bk wr w.heap.size 82 #[.slice A n c, .int .i64 a1])))
      case atStart => exact ⟨k70, hbel0, .inl ⟨by omega, rfl, rfl, k30⟩⟩
      case round =>
        obtain ⟨hk7, hbel, ⟨hg, rfl, rfl, hk3⟩ | ⟨rfl, rfl, hk3⟩⟩ := hrel
        · have hs3 := hk3.lt; have hs7 := hk7.lt; have f0 := hk3.cell 0; have f1 := hk3.cell 1
          go_wp2_with fail
          refine (H0.out wr hbel).mono ?_; rintro e w5 ⟨rfl, hb5⟩; have hk3b := hk3.below hb5 (by omega); have hk7b := hk7.below hb5 (by omega); have hbel5 := hbel.trans (hb5.mono (by omega)); clear f0 f1 hk3 hk7 hb5 hbel; have hs5 := hk3b.lt; have hs57 := hk7b.lt; have f0 := hk3b.cell 0; have f1 := hk3b.cell 1
          go_wp2_with fail
          refine (HF.out w5 hbel5).mono ?_; rintro e w6 ⟨rfl, hb6⟩; have hk3c := hk3b.below hb6 (by omega); have hk7c := hk7b.below hb6 (by omega); have hbel6 := hbel5.trans (hb6.mono (by omega)); clear f0 f1 hk3b hk7b hb6 hbel5; have hs6 := hk3c.lt; have z0 := hk3c.frozen 0; have z1 := hk3c.frozen 1; have f0 := hk3c.cell 0; have f1 := hk3c.cell 1
          have k3n : Bk ((w6.setCell ⟨w.heap.size, 0, none⟩ (.slice A n c)).setCell ⟨w.heap.size, 1, none⟩ (.int .i64 a1)) w.heap.size 82 #[.slice A n c, .int .i64 a1] := by
            have := (hk3c.set_ 0 (.slice A n c)).set_ 1 (.int .i64 a1)
            simpa using this
          have k7n : Bk ((w6.setCell ⟨w.heap.size, 0, none⟩ (.slice A n c)).setCell ⟨w.heap.size, 1, none⟩ (.int .i64 a1)) (w.heap.size + 1) 82 #[.slice none 0 0, .int .i64 0] := (hk7c.setOther (by simp) _).setOther (by simp) _; have hbeln := (hbel6.setCell (p := ⟨w.heap.size, 0, none⟩) (Nat.le_refl _) (.slice A n c)).setCell (p := ⟨w.heap.size, 1, none⟩) (Nat.le_refl _) (.int .i64 a1); go_wp2
          go_roundg 1
          case measure => omega
          case rel => exact ⟨k7n, hbeln, .inr ⟨rfl, rfl, k3n⟩⟩
        · have hs3 := hk3.lt; have hs7 := hk7.lt; have f0 := hk3.cell 0; have f1 := hk3.cell 1; have hk3b := hk3; have hk7b := hk7; have hbel5 := hbel; have f0 := hk3b.cell 0; have f1 := hk3b.cell 1; have d0 := hk7b.cell 0; have d1 := hk7b.cell 1; have z0 := hk7b.frozen 0; have z1 := hk7b.frozen 1; go_wp2
          go_region
          all_goals
            go_wp2; exact bodyPost_ret (v := .tuple #[.int .i64 v, .agg #[.slice A n c, .int .i64 a1], .int .i64 er]) (by simp [results, Tryz.results137, go_sem, d0, d1]) rfl ⟨rfl, ((hbel5.setCell (by simp) _).setCell (by simp) _).drew⟩
end Go.Proofs.YtlaiocdnddnnaaaGreatDoor
