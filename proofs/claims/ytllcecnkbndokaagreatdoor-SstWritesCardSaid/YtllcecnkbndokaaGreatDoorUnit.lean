/- str.isCut, str.getFlags by their contracts. Condition: the cuts read as rising numbers; the bytes read as such; the Cursor stands in them. -/
/- str.getFlags by its contract. Condition: the bytes read as such; the Cursor stands in them. -/
/- str.getFlagsAnew by its contract. Condition: the bytes and the cuts read as such, no cut stands right behind another one; the Cursor stands in the bytes. -/
/- str.getUnit by its contract. Condition: the bytes and the cuts read as such; the Cursor stands in the bytes; flags are 0 or 1. -/
import Derived.Test.YtllcecnkbndokaaGreatDoorU
import Derived.Test.YtllcecnkbndokaaGreatDoorShelf
namespace Go.Proofs.YtllcecnkbndokaaGreatDoor
open Go.RowKit Go.Lib

def iv (x : Int) : Value := .int .i64 x
/-- A slice of cuts: rising, and not too many. -/
structure CutS (w : World) (B : Nat) (A : Option Addr) (n : Nat) (cs : List Int) : Prop where
  rd : Rd w B 1 A n (cs.map iv)
  up : cs.Pairwise (· ≤ ·)
  at_ : n = 0 ∨ ∃ g o, A = some ⟨g, o, none⟩
  few : n ≤ 1000000

theorem CutS.belowMono {w w' : World} {B B' n : Nat} {A : Option Addr} {cs : List Int} (h : CutS w B A n cs) (hb : Below B' w w') (hB : B ≤ B') : CutS w' B A n cs := ⟨h.rd.belowMono hb hB, h.up, h.at_, h.few⟩
theorem CutS.len {w : World} {B n : Nat} {A : Option Addr} {cs : List Int} (h : CutS w B A n cs) : cs.length = n := by
  have := h.rd.len
  simpa using this
theorem CutS.nil (w : World) (B : Nat) (A : Option Addr) : CutS w B A 0 [] := ⟨Rd.nil _ _ _ _, .nil, .inl rfl, by omega⟩

theorem below_drewN {B : Nat} {a w : World} (h : Below B a w) : ∀ q, Below B a (w.drewN q)
  | 0 => h
  | q + 1 => (below_drewN h q).drew

theorem isCut_any {w : World} {B n c : Nat} {A : Option Addr} {cs : List Int} {x : Int} (h : CutS w B A n cs) :
    Calls Tryz.prog 111 #[.slice A n c, .int .i64 x] w fun e w' => e = .returned (.bool (cs.contains x)) ∧ Below w.heap.size w w' := by
  have hl := h.len
  rcases Nat.eq_zero_or_pos n with h0 | h0
  · subst h0
    obtain rfl : cs = [] := List.eq_nil_of_length_eq_zero hl
    clear h
    go_enter Tryz.func111, Tryz.ntmps111
    go_wp2_with fail
    refine (Tryz.slices_BinarySearch_int_empty A c x _).mono ?_
    rintro e w1 ⟨rfl, rfl⟩
    go_wp2
    go_ret
    exact ⟨rfl, Below.refl _ _⟩
  · obtain ⟨g, o, rfl⟩ : ∃ g o, A = some ⟨g, o, none⟩ := by
      rcases h.at_ with h1 | h1
      · omega
      · exact h1
    have hc : ∀ j, j < cs.length → w.cell? ⟨g, o + j, none⟩ = some (.int .i64 (cs.getD j 0)) := by
      intro j hj
      obtain ⟨a, ha, _, hcell⟩ := h.rd.at_ h0
      injection ha with ha
      subst ha
      have := hcell j (iv (cs.getD j 0)) (by rw [List.getElem?_map, List.getElem?_eq_getElem hj, List.getD_eq_getElem?_getD, List.getElem?_eq_getElem hj]; rfl)
      have he : (⟨g, o, none⟩ : Addr).add j = ⟨g, o + j, none⟩ := by
        unfold Addr.add
        split
        · rename_i hj0
          subst hj0
          rfl
        · rfl
      rw [he] at this
      exact this
    have hs : (cs.take n).Pairwise (· ≤ ·) := by rw [List.take_of_length_le (by omega)]; exact h.up
    have HC := Tryz.slices_BinarySearch_int g o n c cs x w (by omega) (by have := h.few; omega) hc hs
    rw [List.take_of_length_le (show cs.length ≤ n by omega)] at HC
    clear hc hs h
    have HC2 := Lib.hid HC
    clear HC
    generalize (cs.countP (· < x)) = K at *
    generalize cs.contains x = R at *
    go_enter Tryz.func111, Tryz.ntmps111
    go_wp2_with fail
    refine HC2.out.mono ?_
    rintro e w1 ⟨rfl, q, rfl⟩
    have hb := below_drewN (Below.refl w.heap.size w) q
    go_wp2
    go_ret
    exact ⟨rfl, hb⟩

/-- What U8 tells at a place in the bytes. -/
theorem u8_in {l : List UInt8} {n at_ : Nat} (hl : l.length = n) (h : at_ < n) : ((numN (tkL l at_ 1) : Nat) : Int) = ((l.getD at_ 0).toNat : Int) ∧ tkAt at_ 1 n = ((at_ + 1 : Nat) : Int) ∧ tkE at_ 1 n = 0 := by
  have e : tkE (at_ : Int) 1 n = 0 := by
    unfold tkE stB
    rw [if_neg (by rw [decide_eq_true (by omega)]; simp), if_neg (by omega)]
  refine ⟨?_, ?_, e⟩
  · unfold tkL
    rw [if_pos (by rw [hl]; exact e)]
    have h1 : (l.drop at_).take 1 = [l.getD at_ 0] := by
      rw [List.getD_eq_getElem?_getD, List.getElem?_eq_getElem (by omega)]
      rw [List.drop_eq_getElem_cons (by omega)]
      rfl
    have h2 : ((l.drop (at_ : Int).toNat).take (1 : Int).toNat) = [l.getD at_ 0] := by simpa using h1
    rw [h2]
    simp [numN]
  · unfold tkAt
    rw [if_pos e]
    omega
theorem u8_end {l : List UInt8} {n : Nat} (hl : l.length = n) : numN (tkL l (n : Int) 1) = 0 ∧ tkAt n 1 n = (n : Int) ∧ tkE n 1 n = 5 := by
  have e : tkE (n : Int) 1 n = 5 := by
    unfold tkE stB
    rw [if_neg (by rw [decide_eq_true (by omega)]; simp), if_pos (by omega)]
  refine ⟨?_, ?_, e⟩
  · unfold tkL
    rw [if_neg (by rw [hl, e]; decide)]
    rfl
  · unfold tkAt
    rw [if_neg (by rw [e]; decide)]
end Go.Proofs.YtllcecnkbndokaaGreatDoor
namespace Go.Proofs.YtllcecnkbndokaaGreatDoor
open Go.RowKit Go.Lib

/-- The flags at a place: what they are, the place behind them, what is wrong. -/
def rdF (l : List UInt8) (at_ : Nat) : Nat × Nat × Int :=
  if at_ < l.length then (if (l.getD at_ 0).toNat ≤ 1 then ((l.getD at_ 0).toNat, at_ + 1, 0) else (0, at_, 2)) else (0, at_, 5)

def cur (A : Option Addr) (n c : Nat) (at_ : Nat) : Value := .agg #[.slice A n c, .int .i64 at_]

set_option maxHeartbeats 4000000 in
set_option maxRecDepth 100000 in
theorem getFlags_of {w : World} {n c : Nat} {A : Option Addr} {a0 a1 v : Nat} {e1 : Int} {R : Value}
    (HU : ∀ W, Below w.heap.size w W → Calls Tryz.prog 110 #[cur A n c a0] W fun e w' => e = .returned (.tuple #[.int .i64 v, cur A n c a1, .int .i64 e1]) ∧ Below W.heap.size W w')
    (hR : (e1 ≠ 0 ∧ R = .tuple #[.int .i64 v, cur A n c a1, .int .i64 e1]) ∨ (e1 = 0 ∧ v ≤ 1 ∧ R = .tuple #[.int .i64 v, cur A n c a1, .int .i64 0]) ∨ (e1 = 0 ∧ 2 ≤ v ∧ R = .tuple #[.int .i64 0, cur A n c a0, .int .i64 2])) :
    Calls Tryz.prog 102 #[cur A n c a0] w fun e w' => e = .returned R ∧ Below w.heap.size w w' := by
  unfold cur at *
  have HC := Lib.hid (HU _ (two_below w (.cells #[.slice A n c, .int .i64 a0] 99) (.cells #[.slice none 0 0, .int .i64 0] 99)))
  clear HU
  rcases hR with ⟨h0, rfl⟩ | ⟨rfl, h0, rfl⟩ | ⟨rfl, h0, rfl⟩
  · go_enter Tryz.func102, Tryz.ntmps102
    go_wp2_with fail
    refine HC.out.mono ?_
    rintro e w1 ⟨rfl, hb1⟩
    obtain ⟨k1, k2, hb', s1⟩ := two_boxes hb1
    clear HC
    have k2' := k2.alloc (.cells #[.slice A n c, .int .i64 a1] 99)
    have k3 := Bk.new w1 99 #[.slice A n c, .int .i64 a1]
    have hbW := hb'.alloc hb'.size (.cells #[.slice A n c, .int .i64 a1] 99)
    go_wp2
    generalize w1.alloc (.cells #[.slice A n c, .int .i64 a1] 99) = W at *
    have f0 := k3.cell 0
    have f1 := k3.cell 1
    have d0 := k2'.cell 0
    have d1 := k2'.cell 1
    have z0 := k2'.frozen 0
    have z1 := k2'.frozen 1
    go_region
    all_goals
      go_wp2
      exact bodyPost_ret (v := .tuple #[.int .i64 v, .agg #[.slice A n c, .int .i64 a1], .int .i64 e1]) (by simp [results, Tryz.results102, go_sem, d0, d1]) rfl ⟨rfl, ((hbW.setCell (by simp) _).setCell (by simp) _).drew⟩
  · have hv : v = 0 ∨ v = 1 := by omega
    rcases hv with rfl | rfl
    · go_enter Tryz.func102, Tryz.ntmps102
      go_wp2_with fail
      refine HC.out.mono ?_
      rintro e w1 ⟨rfl, hb1⟩
      obtain ⟨k1, k2, hb', s1⟩ := two_boxes hb1
      clear HC
      have k2' := k2.alloc (.cells #[.slice A n c, .int .i64 a1] 99)
      have k3 := Bk.new w1 99 #[.slice A n c, .int .i64 a1]
      have hbW := hb'.alloc hb'.size (.cells #[.slice A n c, .int .i64 a1] 99)
      go_wp2
      generalize w1.alloc (.cells #[.slice A n c, .int .i64 a1] 99) = W at *
      have f0 := k3.cell 0
      have f1 := k3.cell 1
      have d0 := k2'.cell 0
      have d1 := k2'.cell 1
      have z0 := k2'.frozen 0
      have z1 := k2'.frozen 1
      go_region
      all_goals
        go_wp2
        exact bodyPost_ret (v := .tuple #[.int .i64 (0 : Nat), .agg #[.slice A n c, .int .i64 a1], .int .i64 0]) (by simp [results, Tryz.results102, go_sem, d0, d1]) rfl ⟨rfl, ((hbW.setCell (by simp) _).setCell (by simp) _).drew⟩
    · go_enter Tryz.func102, Tryz.ntmps102
      go_wp2_with fail
      refine HC.out.mono ?_
      rintro e w1 ⟨rfl, hb1⟩
      obtain ⟨k1, k2, hb', s1⟩ := two_boxes hb1
      clear HC
      have k2' := k2.alloc (.cells #[.slice A n c, .int .i64 a1] 99)
      have k3 := Bk.new w1 99 #[.slice A n c, .int .i64 a1]
      have hbW := hb'.alloc hb'.size (.cells #[.slice A n c, .int .i64 a1] 99)
      go_wp2
      generalize w1.alloc (.cells #[.slice A n c, .int .i64 a1] 99) = W at *
      have f0 := k3.cell 0
      have f1 := k3.cell 1
      have d0 := k2'.cell 0
      have d1 := k2'.cell 1
      have z0 := k2'.frozen 0
      have z1 := k2'.frozen 1
      go_region
      all_goals
        go_wp2
        exact bodyPost_ret (v := .tuple #[.int .i64 (1 : Nat), .agg #[.slice A n c, .int .i64 a1], .int .i64 0]) (by simp [results, Tryz.results102, go_sem, d0, d1]) rfl ⟨rfl, ((hbW.setCell (by simp) _).setCell (by simp) _).drew⟩
  · obtain ⟨V, hV⟩ : ∃ V : Int, (v : Int) = V := ⟨_, rfl⟩
    rw [hV] at HC
    have hv0 : (V != 0) = true := by simp; omega
    have hv1 : (V != 1) = true := by simp; omega
    clear hV h0
    go_enter Tryz.func102, Tryz.ntmps102
    go_wp2_with fail
    refine HC.out.mono ?_
    rintro e w1 ⟨rfl, hb1⟩
    obtain ⟨k1, k2, hb', s1⟩ := two_boxes hb1
    clear HC
    have k1' := k1.alloc (.cells #[.slice A n c, .int .i64 a1] 99)
    have k2' := k2.alloc (.cells #[.slice A n c, .int .i64 a1] 99)
    have hbW := hb'.alloc hb'.size (.cells #[.slice A n c, .int .i64 a1] 99)
    go_wp2
    generalize w1.alloc (.cells #[.slice A n c, .int .i64 a1] 99) = W at *
    have f0 := k1'.cell 0
    have f1 := k1'.cell 1
    have d0 := k2'.cell 0
    have d1 := k2'.cell 1
    have z0 := k2'.frozen 0
    have z1 := k2'.frozen 1
    go_region
    all_goals
      go_wp2
      exact bodyPost_ret (v := .tuple #[.int .i64 0, .agg #[.slice A n c, .int .i64 a0], .int .i64 2]) (by simp [results, Tryz.results102, go_sem, d0, d1]) rfl ⟨rfl, ((hbW.setCell (by simp) _).setCell (by simp) _).drew⟩

theorem getFlags_any {w : World} {B n c at_ : Nat} {A : Option Addr} {l : List UInt8} (h : Rd w B 1 A n (l.map bv)) (hnc : n ≤ c) (hn : n ≤ 1000000000000000000) (hB : B ≤ w.heap.size) (ha : at_ ≤ n) :
    Calls Tryz.prog 102 #[cur A n c at_] w fun e w' => e = .returned (.tuple #[.int .i64 (rdF l at_).1, cur A n c (rdF l at_).2.1, .int .i64 (rdF l at_).2.2]) ∧ Below w.heap.size w w' := by
  have hl := h.blen
  by_cases h1 : at_ < n
  · obtain ⟨e1, e2, e3⟩ := u8_in hl h1
    have HU : ∀ W, Below w.heap.size w W → Calls Tryz.prog 110 #[cur A n c at_] W fun e w' => e = .returned (.tuple #[.int .i64 ((l.getD at_ 0).toNat : Nat), cur A n c (at_ + 1), .int .i64 0]) ∧ Below W.heap.size W w' := fun W hb => by
      have := u8_any (at_ := (at_ : Int)) (h.belowMono hb hB) hnc hn (Nat.le_trans hB hb.size)
      rw [e1, e2, e3] at this
      exact this
    refine getFlags_of HU ?_
    unfold rdF
    rw [if_pos (by omega)]
    by_cases h2 : (l.getD at_ 0).toNat ≤ 1
    · rw [if_pos h2]
      exact .inr (.inl ⟨rfl, h2, rfl⟩)
    · rw [if_neg h2]
      exact .inr (.inr ⟨rfl, by omega, rfl⟩)
  · obtain rfl : at_ = n := by omega
    obtain ⟨e1, e2, e3⟩ := u8_end hl
    have HU : ∀ W, Below w.heap.size w W → Calls Tryz.prog 110 #[cur A at_ c at_] W fun e w' => e = .returned (.tuple #[.int .i64 ((0 : Nat) : Int), cur A at_ c at_, .int .i64 5]) ∧ Below W.heap.size W w' := fun W hb => by
      have := u8_any (at_ := (at_ : Int)) (h.belowMono hb hB) hnc hn (Nat.le_trans hB hb.size)
      rw [e1, e2, e3] at this
      exact this
    refine getFlags_of HU ?_
    unfold rdF
    rw [if_neg (by omega)]
    exact .inl ⟨by decide, rfl⟩
end Go.Proofs.YtllcecnkbndokaaGreatDoor
namespace Go.Proofs.YtllcecnkbndokaaGreatDoor
open Go.RowKit Go.Lib

/-- The flags that hold for the unit at a place. -/
def rdA (l : List UInt8) (cs : List Int) (fl at_ : Nat) : Nat × Nat × Int := if cs.contains (at_ : Int) = true then rdF l at_ else (fl, at_, 0)

theorem Bk.setOther {w : World} {g : Nat} {t : TypeId} {cs : Array Value} (h : Bk w g t cs) {p : Addr} (hp : p.block ≠ g) (u : Value) : Bk (w.setCell p u) g t cs := by
  unfold Bk at *
  rw [Below.heap_setCell w p u g (Ne.symm hp), h]

theorem rdF_at (l : List UInt8) (at_ : Nat) (h : (rdF l at_).2.2 = 0) : (rdF l at_).2.1 = at_ + 1 ∧ at_ < l.length ∧ (rdF l at_).1 ≤ 1 := by
  unfold rdF at h ⊢
  by_cases h1 : at_ < l.length
  · rw [if_pos h1] at h ⊢
    by_cases h2 : (l.getD at_ 0).toNat ≤ 1
    · rw [if_pos h2]; exact ⟨rfl, h1, h2⟩
    · rw [if_neg h2] at h; cases h
  · rw [if_neg h1] at h; cases h

set_option maxHeartbeats 4000000 in
set_option maxRecDepth 100000 in
theorem anew_any {w : World} {B n c at_ n' c' fl : Nat} {A A' : Option Addr} {l : List UInt8} {cs : List Int} (h : Rd w B 1 A n (l.map bv)) (hC : CutS w B A' n' cs) (hnc : n ≤ c) (hn : n ≤ 1000000000000000000) (hB : B ≤ w.heap.size) (ha : at_ ≤ n) (hna : cs.contains (at_ : Int) = true → cs.contains ((at_ + 1 : Nat) : Int) = false) :
    Calls Tryz.prog 103 #[cur A n c at_, .slice A' n' c', .int .i64 fl] w fun e w' => e = .returned (.tuple #[.int .i64 (rdA l cs fl at_).1, cur A n c (rdA l cs fl at_).2.1, .int .i64 (rdA l cs fl at_).2.2]) ∧ Below w.heap.size w w' := by
  have HI : ∀ x : Int, Hid (∀ W, Below w.heap.size w W → Calls Tryz.prog 111 #[.slice A' n' c', .int .i64 x] W fun e w' => e = .returned (.bool (cs.contains x)) ∧ Below W.heap.size W w') := fun x => Lib.hid fun W hb => isCut_any (hC.belowMono hb hB)
  have hbel0 := two_below w (.cells #[.slice A n c, .int .i64 at_] 99) (.cells #[.slice none 0 0, .int .i64 0] 99)
  have k30 := (Bk.new w 99 #[.slice A n c, .int .i64 at_]).alloc (.cells #[.slice none 0 0, .int .i64 0] 99)
  have k70 : Bk ((w.alloc (.cells #[.slice A n c, .int .i64 at_] 99)).alloc (.cells #[.slice none 0 0, .int .i64 0] 99)) (w.heap.size + 1) 99 #[.slice none 0 0, .int .i64 0] := by
    have := Bk.new (w.alloc (.cells #[.slice A n c, .int .i64 at_] 99)) 99 #[.slice none 0 0, .int .i64 0]
    simpa using this
  cases hct : cs.contains (at_ : Int)
  · have e1 : rdA l cs fl at_ = (fl, at_, 0) := by unfold rdA; rw [hct]; rfl
    rw [e1]
    have H0 := HI at_
    rw [hct] at H0
    clear HI e1 hct hna h hC
    unfold cur
    go_enter Tryz.func103, Tryz.ntmps103
    go_wp2
    generalize (w.alloc (.cells #[.slice A n c, .int .i64 at_] 99)).alloc (.cells #[.slice none 0 0, .int .i64 0] 99) = W0 at *
    go_loopg [2, 9] 1 (fun _ s2 s9 wr => s2 = .int .i64 fl ∧ s9 = .int .i64 0 ∧ Bk wr w.heap.size 99 #[.slice A n c, .int .i64 at_] ∧ Bk wr (w.heap.size + 1) 99 #[.slice none 0 0, .int .i64 0] ∧ Below w.heap.size w wr)
    case atStart => exact ⟨rfl, rfl, k30, k70, hbel0⟩
    case round =>
      obtain ⟨rfl, rfl, hk3, hk7, hbel⟩ := hrel
      have hs3 := hk3.lt
      have hs7 := hk7.lt
      have f0 := hk3.cell 0
      have f1 := hk3.cell 1
      go_wp2_with fail
      refine (H0.out wr hbel).mono ?_
      rintro e w5 ⟨rfl, hb5⟩
      have hk3b := hk3.below hb5 (by omega)
      have hk7b := hk7.below hb5 (by omega)
      have hbel5 := hbel.trans (hb5.mono (by omega))
      clear f0 f1 hk3 hk7 hb5 hbel
      have f0 := hk3b.cell 0
      have f1 := hk3b.cell 1
      have d0 := hk7b.cell 0
      have d1 := hk7b.cell 1
      have z0 := hk7b.frozen 0
      have z1 := hk7b.frozen 1
      go_wp2
      go_region
      all_goals
        go_wp2
        exact bodyPost_ret (v := .tuple #[.int .i64 fl, .agg #[.slice A n c, .int .i64 at_], .int .i64 0]) (by simp [results, Tryz.results103, go_sem, d0, d1]) rfl ⟨rfl, ((hbel5.setCell (by simp) _).setCell (by simp) _).drew⟩
  · have e1 : rdA l cs fl at_ = rdF l at_ := by unfold rdA; rw [hct]; rfl
    rw [e1]
    have H0 := HI at_
    rw [hct] at H0
    have H1 : (rdF l at_).2.2 = 0 → Hid (∀ W, Below w.heap.size w W → Calls Tryz.prog 111 #[.slice A' n' c', .int .i64 ((rdF l at_).2.1 : Int)] W fun e w' => e = .returned (.bool false) ∧ Below W.heap.size W w') := fun h0 => by
      have := HI ((rdF l at_).2.1 : Int)
      rw [(rdF_at l at_ h0).1, hna hct] at this
      rw [(rdF_at l at_ h0).1]
      exact this
    have HF := Lib.hid (fun (W : World) (hb : Below w.heap.size w W) => getFlags_any (h.belowMono hb hB) hnc hn (Nat.le_trans hB hb.size) ha)
    clear HI e1 hct hna h hC
    generalize rdF l at_ = R at *
    obtain ⟨v, a1, er⟩ := R
    unfold cur at *
    simp only at *
    by_cases her : er = 0
    · subst her
      have H2 := H1 rfl
      clear H1
      go_enter Tryz.func103, Tryz.ntmps103
      go_wp2
      generalize (w.alloc (.cells #[.slice A n c, .int .i64 at_] 99)).alloc (.cells #[.slice none 0 0, .int .i64 0] 99) = W0 at *
      go_loopg [2, 9] 2 (fun g s2 s9 wr => Bk wr (w.heap.size + 1) 99 #[.slice none 0 0, .int .i64 0] ∧ Below w.heap.size w wr ∧ ((1 < g ∧ s2 = .int .i64 fl ∧ s9 = .int .i64 0 ∧ Bk wr w.heap.size 99 #[.slice A n c, .int .i64 at_]) ∨ (s2 = .int .i64 v ∧ s9 = .int .i64 0 ∧ Bk wr w.heap.size 99 #[.slice A n c, .int .i64 a1])))
      case atStart => exact ⟨k70, hbel0, .inl ⟨by omega, rfl, rfl, k30⟩⟩
      case round =>
        obtain ⟨hk7, hbel, ⟨hg, rfl, rfl, hk3⟩ | ⟨rfl, rfl, hk3⟩⟩ := hrel
        · have hs3 := hk3.lt
          have hs7 := hk7.lt
          have f0 := hk3.cell 0
          have f1 := hk3.cell 1
          go_wp2_with fail
          refine (H0.out wr hbel).mono ?_
          rintro e w5 ⟨rfl, hb5⟩
          have hk3b := hk3.below hb5 (by omega)
          have hk7b := hk7.below hb5 (by omega)
          have hbel5 := hbel.trans (hb5.mono (by omega))
          clear f0 f1 hk3 hk7 hb5 hbel
          have hs5 := hk3b.lt
          have hs57 := hk7b.lt
          have f0 := hk3b.cell 0
          have f1 := hk3b.cell 1
          go_wp2_with fail
          refine (HF.out w5 hbel5).mono ?_
          rintro e w6 ⟨rfl, hb6⟩
          have hk3c := hk3b.below hb6 (by omega)
          have hk7c := hk7b.below hb6 (by omega)
          have hbel6 := hbel5.trans (hb6.mono (by omega))
          clear f0 f1 hk3b hk7b hb6 hbel5
          have hs6 := hk3c.lt
          have z0 := hk3c.frozen 0
          have z1 := hk3c.frozen 1
          have f0 := hk3c.cell 0
          have f1 := hk3c.cell 1
          have k3n : Bk ((w6.setCell ⟨w.heap.size, 0, none⟩ (.slice A n c)).setCell ⟨w.heap.size, 1, none⟩ (.int .i64 a1)) w.heap.size 99 #[.slice A n c, .int .i64 a1] := by
            have := (hk3c.set_ 0 (.slice A n c)).set_ 1 (.int .i64 a1)
            simpa using this
          have k7n : Bk ((w6.setCell ⟨w.heap.size, 0, none⟩ (.slice A n c)).setCell ⟨w.heap.size, 1, none⟩ (.int .i64 a1)) (w.heap.size + 1) 99 #[.slice none 0 0, .int .i64 0] := (hk7c.setOther (by simp) _).setOther (by simp) _
          have hbeln := (hbel6.setCell (p := ⟨w.heap.size, 0, none⟩) (Nat.le_refl _) (.slice A n c)).setCell (p := ⟨w.heap.size, 1, none⟩) (Nat.le_refl _) (.int .i64 a1)
          go_wp2
          go_roundg 1
          case measure => omega
          case rel => exact ⟨k7n, hbeln, .inr ⟨rfl, rfl, k3n⟩⟩
        · have hs3 := hk3.lt
          have hs7 := hk7.lt
          have f0 := hk3.cell 0
          have f1 := hk3.cell 1
          go_wp2_with fail
          refine (H2.out wr hbel).mono ?_
          rintro e w5 ⟨rfl, hb5⟩
          have hk3b := hk3.below hb5 (by omega)
          have hk7b := hk7.below hb5 (by omega)
          have hbel5 := hbel.trans (hb5.mono (by omega))
          clear f0 f1 hk3 hk7 hb5 hbel
          have f0 := hk3b.cell 0
          have f1 := hk3b.cell 1
          have d0 := hk7b.cell 0
          have d1 := hk7b.cell 1
          have z0 := hk7b.frozen 0
          have z1 := hk7b.frozen 1
          go_wp2
          go_region
          all_goals
            go_wp2
            exact bodyPost_ret (v := .tuple #[.int .i64 v, .agg #[.slice A n c, .int .i64 a1], .int .i64 0]) (by simp [results, Tryz.results103, go_sem, d0, d1]) rfl ⟨rfl, ((hbel5.setCell (by simp) _).setCell (by simp) _).drew⟩
    · go_enter Tryz.func103, Tryz.ntmps103
      go_wp2
      generalize (w.alloc (.cells #[.slice A n c, .int .i64 at_] 99)).alloc (.cells #[.slice none 0 0, .int .i64 0] 99) = W0 at *
      go_loopg [2, 9] 2 (fun g s2 s9 wr => Bk wr (w.heap.size + 1) 99 #[.slice none 0 0, .int .i64 0] ∧ Below w.heap.size w wr ∧ ((1 < g ∧ s2 = .int .i64 fl ∧ s9 = .int .i64 0 ∧ Bk wr w.heap.size 99 #[.slice A n c, .int .i64 at_]) ∨ (s2 = .int .i64 v ∧ s9 = .int .i64 er ∧ Bk wr w.heap.size 99 #[.slice A n c, .int .i64 a1])))
      case atStart => exact ⟨k70, hbel0, .inl ⟨by omega, rfl, rfl, k30⟩⟩
      case round =>
        obtain ⟨hk7, hbel, ⟨hg, rfl, rfl, hk3⟩ | ⟨rfl, rfl, hk3⟩⟩ := hrel
        · have hs3 := hk3.lt
          have hs7 := hk7.lt
          have f0 := hk3.cell 0
          have f1 := hk3.cell 1
          go_wp2_with fail
          refine (H0.out wr hbel).mono ?_
          rintro e w5 ⟨rfl, hb5⟩
          have hk3b := hk3.below hb5 (by omega)
          have hk7b := hk7.below hb5 (by omega)
          have hbel5 := hbel.trans (hb5.mono (by omega))
          clear f0 f1 hk3 hk7 hb5 hbel
          have hs5 := hk3b.lt
          have hs57 := hk7b.lt
          have f0 := hk3b.cell 0
          have f1 := hk3b.cell 1
          go_wp2_with fail
          refine (HF.out w5 hbel5).mono ?_
          rintro e w6 ⟨rfl, hb6⟩
          have hk3c := hk3b.below hb6 (by omega)
          have hk7c := hk7b.below hb6 (by omega)
          have hbel6 := hbel5.trans (hb6.mono (by omega))
          clear f0 f1 hk3b hk7b hb6 hbel5
          have hs6 := hk3c.lt
          have z0 := hk3c.frozen 0
          have z1 := hk3c.frozen 1
          have f0 := hk3c.cell 0
          have f1 := hk3c.cell 1
          have k3n : Bk ((w6.setCell ⟨w.heap.size, 0, none⟩ (.slice A n c)).setCell ⟨w.heap.size, 1, none⟩ (.int .i64 a1)) w.heap.size 99 #[.slice A n c, .int .i64 a1] := by
            have := (hk3c.set_ 0 (.slice A n c)).set_ 1 (.int .i64 a1)
            simpa using this
          have k7n : Bk ((w6.setCell ⟨w.heap.size, 0, none⟩ (.slice A n c)).setCell ⟨w.heap.size, 1, none⟩ (.int .i64 a1)) (w.heap.size + 1) 99 #[.slice none 0 0, .int .i64 0] := (hk7c.setOther (by simp) _).setOther (by simp) _
          have hbeln := (hbel6.setCell (p := ⟨w.heap.size, 0, none⟩) (Nat.le_refl _) (.slice A n c)).setCell (p := ⟨w.heap.size, 1, none⟩) (Nat.le_refl _) (.int .i64 a1)
          go_wp2
          go_roundg 1
          case measure => omega
          case rel => exact ⟨k7n, hbeln, .inr ⟨rfl, rfl, k3n⟩⟩
        · have hs3 := hk3.lt
          have hs7 := hk7.lt
          have f0 := hk3.cell 0
          have f1 := hk3.cell 1
          have hk3b := hk3
          have hk7b := hk7
          have hbel5 := hbel
          have f0 := hk3b.cell 0
          have f1 := hk3b.cell 1
          have d0 := hk7b.cell 0
          have d1 := hk7b.cell 1
          have z0 := hk7b.frozen 0
          have z1 := hk7b.frozen 1
          go_wp2
          go_region
          all_goals
            go_wp2
            exact bodyPost_ret (v := .tuple #[.int .i64 v, .agg #[.slice A n c, .int .i64 a1], .int .i64 er]) (by simp [results, Tryz.results103, go_sem, d0, d1]) rfl ⟨rfl, ((hbel5.setCell (by simp) _).setCell (by simp) _).drew⟩
end Go.Proofs.YtllcecnkbndokaaGreatDoor
namespace Go.Proofs.YtllcecnkbndokaaGreatDoor
open Go.RowKit Go.Lib

/-- The unit at a place: what it is, the place behind it, what is wrong. -/
def rdU1 (l : List UInt8) (cs : List Int) (fl at_ : Nat) : Nat × Nat × Int :=
  if fl = 0 then (if at_ < l.length then ((l.getD at_ 0).toNat, at_ + 1, 0) else (0, at_, 5))
  else if at_ + 1 < l.length then (if cs.contains ((at_ : Int) + 1) = true then (0, at_, 2) else ((l.getD at_ 0).toNat + 256 * (l.getD (at_ + 1) 0).toNat, at_ + 2, 0))
  else (0, at_, 5)

theorem u16_in {l : List UInt8} {n at_ : Nat} (hl : l.length = n) (h : at_ + 1 < n) : ((numN (tkL l at_ 2) : Nat) : Int) = (((l.getD at_ 0).toNat + 256 * (l.getD (at_ + 1) 0).toNat : Nat) : Int) ∧ tkAt at_ 2 n = ((at_ + 2 : Nat) : Int) ∧ tkE at_ 2 n = 0 := by
  have e : tkE (at_ : Int) 2 n = 0 := by
    unfold tkE stB
    rw [if_neg (by rw [decide_eq_true (by omega)]; simp), if_neg (by omega)]
  refine ⟨?_, ?_, e⟩
  · unfold tkL
    rw [if_pos (by rw [hl]; exact e)]
    have h1 : (l.drop at_).take 2 = [l.getD at_ 0, l.getD (at_ + 1) 0] := by
      rw [List.getD_eq_getElem?_getD, List.getD_eq_getElem?_getD, List.getElem?_eq_getElem (by omega), List.getElem?_eq_getElem (by omega)]
      rw [List.drop_eq_getElem_cons (by omega), List.drop_eq_getElem_cons (by omega)]
      rfl
    have h2 : ((l.drop (at_ : Int).toNat).take (2 : Int).toNat) = [l.getD at_ 0, l.getD (at_ + 1) 0] := by simpa using h1
    rw [h2]
    simp [numN]
  · unfold tkAt
    rw [if_pos e]
    omega
theorem u16_end {l : List UInt8} {n at_ : Nat} (hl : l.length = n) (ha : at_ ≤ n) (h : ¬ at_ + 1 < n) : numN (tkL l (at_ : Int) 2) = 0 ∧ tkAt at_ 2 n = (at_ : Int) ∧ tkE at_ 2 n = 5 := by
  have e : tkE (at_ : Int) 2 n = 5 := by
    unfold tkE stB
    rw [if_neg (by rw [decide_eq_true (by omega)]; simp), if_pos (by omega)]
  refine ⟨?_, ?_, e⟩
  · unfold tkL
    rw [if_neg (by rw [hl, e]; decide)]
    rfl
  · unfold tkAt
    rw [if_neg (by rw [e]; decide)]

set_option maxHeartbeats 4000000 in
set_option maxRecDepth 100000 in
theorem getUnit_one {w : World} {n c n' c' : Nat} {A A' : Option Addr} {a0 a1 v : Nat} {e1 : Int}
    (HU : ∀ W, Below w.heap.size w W → Calls Tryz.prog 110 #[cur A n c a0] W fun e w' => e = .returned (.tuple #[.int .i64 v, cur A n c a1, .int .i64 e1]) ∧ Below W.heap.size W w') :
    Calls Tryz.prog 104 #[cur A n c a0, .slice A' n' c', .int .i64 0] w fun e w' => e = .returned (.tuple #[.int .i64 v, cur A n c a1, .int .i64 e1]) ∧ Below w.heap.size w w' := by
  unfold cur at *
  have HC := Lib.hid (HU _ (two_below w (.cells #[.slice A n c, .int .i64 a0] 99) (.cells #[.slice none 0 0, .int .i64 0] 99)))
  clear HU
  go_enter Tryz.func104, Tryz.ntmps104
  go_wp2_with fail
  refine HC.out.mono ?_
  rintro e w1 ⟨rfl, hb1⟩
  obtain ⟨k1, k2, hb', s1⟩ := two_boxes hb1
  clear HC
  have d0 := k2.cell 0
  have d1 := k2.cell 1
  have z0 := k2.frozen 0
  have z1 := k2.frozen 1
  have k2n : Bk ((w1.setCell ⟨w.heap.size + 1, 0, none⟩ (.slice A n c)).setCell ⟨w.heap.size + 1, 1, none⟩ (.int .i64 a1)) (w.heap.size + 1) 99 #[.slice A n c, .int .i64 a1] := by
    have := (k2.set_ 0 (.slice A n c)).set_ 1 (.int .i64 a1)
    simpa using this
  have hbn := (hb'.setCell (p := ⟨w.heap.size + 1, 0, none⟩) (by simp) (.slice A n c)).setCell (p := ⟨w.heap.size + 1, 1, none⟩) (by simp) (.int .i64 a1)
  go_wp2
  have q0 := k2n.cell 0
  have q1 := k2n.cell 1
  clear d0 d1 z0 z1
  exact bodyPost_ret (v := .tuple #[.int .i64 v, .agg #[.slice A n c, .int .i64 a1], .int .i64 e1]) (by simp [results, Tryz.results104, go_sem, q0, q1]) rfl ⟨rfl, hbn⟩

set_option maxHeartbeats 4000000 in
set_option maxRecDepth 100000 in
theorem getUnit_two {w : World} {n c n' c' : Nat} {A A' : Option Addr} {a0 a1 v : Nat} {e1 : Int} {R : Value} {ct : Bool} (ha : a0 ≤ 1000000000000000000)
    (HU : ∀ W, Below w.heap.size w W → Calls Tryz.prog 101 #[cur A n c a0] W fun e w' => e = .returned (.tuple #[.int .i64 v, cur A n c a1, .int .i64 e1]) ∧ Below W.heap.size W w')
    (HI : ∀ W, Below w.heap.size w W → Calls Tryz.prog 111 #[.slice A' n' c', .int .i64 ((a0 : Int) + 1)] W fun e w' => e = .returned (.bool ct) ∧ Below W.heap.size W w')
    (hR : (e1 ≠ 0 ∧ R = .tuple #[.int .i64 v, cur A n c a1, .int .i64 e1]) ∨ (e1 = 0 ∧ ct = false ∧ R = .tuple #[.int .i64 v, cur A n c a1, .int .i64 0]) ∨ (e1 = 0 ∧ ct = true ∧ R = .tuple #[.int .i64 0, cur A n c a0, .int .i64 2])) :
    Calls Tryz.prog 104 #[cur A n c a0, .slice A' n' c', .int .i64 1] w fun e w' => e = .returned R ∧ Below w.heap.size w w' := by
  unfold cur at *
  have HC := Lib.hid (HU _ (two_below w (.cells #[.slice A n c, .int .i64 a0] 99) (.cells #[.slice none 0 0, .int .i64 0] 99)))
  have HJ := Lib.hid HI
  clear HU HI
  rcases hR with ⟨h0, rfl⟩ | ⟨rfl, rfl, rfl⟩ | ⟨rfl, rfl, rfl⟩
  · go_enter Tryz.func104, Tryz.ntmps104
    go_wp2_with fail
    refine HC.out.mono ?_
    rintro e w1 ⟨rfl, hb1⟩
    obtain ⟨k1, k2, hb', s1⟩ := two_boxes hb1
    clear HC
    have k1' := k1.alloc (.cells #[.slice A n c, .int .i64 a1] 99)
    have k2' := k2.alloc (.cells #[.slice A n c, .int .i64 a1] 99)
    have k3 := Bk.new w1 99 #[.slice A n c, .int .i64 a1]
    have hbW := hb'.alloc hb'.size (.cells #[.slice A n c, .int .i64 a1] 99)
    have hsz1 := k1'.lt
    have hsz2 := k2'.lt
    have hsz3 := k3.lt
    go_wp2
    have k1b := k1'
    have k2b := k2'
    have k3b := k3
    have hbb := hbW
    clear k1' k2' k3 hbW HJ
    generalize w1.alloc (.cells #[.slice A n c, .int .i64 a1] 99) = w2 at *
    have f0 := k3b.cell 0
    have f1 := k3b.cell 1
    have d0 := k2b.cell 0
    have d1 := k2b.cell 1
    have z0 := k2b.frozen 0
    have z1 := k2b.frozen 1
    go_region
    all_goals
      go_wp2
      exact bodyPost_ret (v := .tuple #[.int .i64 v, .agg #[.slice A n c, .int .i64 a1], .int .i64 e1]) (by simp [results, Tryz.results104, go_sem, d0, d1]) rfl ⟨rfl, ((hbb.setCell (by simp) _).setCell (by simp) _).drew⟩
  · go_enter Tryz.func104, Tryz.ntmps104
    go_wp2_with fail
    refine HC.out.mono ?_
    rintro e w1 ⟨rfl, hb1⟩
    obtain ⟨k1, k2, hb', s1⟩ := two_boxes hb1
    clear HC
    have k1' := k1.alloc (.cells #[.slice A n c, .int .i64 a1] 99)
    have k2' := k2.alloc (.cells #[.slice A n c, .int .i64 a1] 99)
    have k3 := Bk.new w1 99 #[.slice A n c, .int .i64 a1]
    have hbW := hb'.alloc hb'.size (.cells #[.slice A n c, .int .i64 a1] 99)
    have hsz1 := k1'.lt
    have hsz2 := k2'.lt
    have hsz3 := k3.lt
    have g0 := k1'.cell 0
    have g1 := k1'.cell 1
    go_wp2_with fail
    refine (HJ.out _ hbW).mono ?_
    rintro e w2 ⟨rfl, hb2⟩
    clear g0 g1 HJ
    have k1b := k1'.below hb2 hsz1
    have k2b := k2'.below hb2 hsz2
    have k3b := k3.below hb2 hsz3
    have hbb := hbW.trans (hb2.mono hbW.size)
    clear k1' k2' k3 hbW hb2 hsz1 hsz2 hsz3
    go_wp2
    have f0 := k3b.cell 0
    have f1 := k3b.cell 1
    have d0 := k2b.cell 0
    have d1 := k2b.cell 1
    have z0 := k2b.frozen 0
    have z1 := k2b.frozen 1
    go_region
    all_goals
      go_wp2
      exact bodyPost_ret (v := .tuple #[.int .i64 v, .agg #[.slice A n c, .int .i64 a1], .int .i64 0]) (by simp [results, Tryz.results104, go_sem, d0, d1]) rfl ⟨rfl, ((hbb.setCell (by simp) _).setCell (by simp) _).drew⟩
  · go_enter Tryz.func104, Tryz.ntmps104
    go_wp2_with fail
    refine HC.out.mono ?_
    rintro e w1 ⟨rfl, hb1⟩
    obtain ⟨k1, k2, hb', s1⟩ := two_boxes hb1
    clear HC
    have k1' := k1.alloc (.cells #[.slice A n c, .int .i64 a1] 99)
    have k2' := k2.alloc (.cells #[.slice A n c, .int .i64 a1] 99)
    have k3 := Bk.new w1 99 #[.slice A n c, .int .i64 a1]
    have hbW := hb'.alloc hb'.size (.cells #[.slice A n c, .int .i64 a1] 99)
    have hsz1 := k1'.lt
    have hsz2 := k2'.lt
    have hsz3 := k3.lt
    have g0 := k1'.cell 0
    have g1 := k1'.cell 1
    go_wp2_with fail
    refine (HJ.out _ hbW).mono ?_
    rintro e w2 ⟨rfl, hb2⟩
    clear g0 g1 HJ
    have k1b := k1'.below hb2 hsz1
    have k2b := k2'.below hb2 hsz2
    have k3b := k3.below hb2 hsz3
    have hbb := hbW.trans (hb2.mono hbW.size)
    clear k1' k2' k3 hbW hb2 hsz1 hsz2 hsz3
    go_wp2
    have f0 := k1b.cell 0
    have f1 := k1b.cell 1
    have d0 := k2b.cell 0
    have d1 := k2b.cell 1
    have z0 := k2b.frozen 0
    have z1 := k2b.frozen 1
    go_region
    all_goals
      go_wp2
      exact bodyPost_ret (v := .tuple #[.int .i64 0, .agg #[.slice A n c, .int .i64 a0], .int .i64 2]) (by simp [results, Tryz.results104, go_sem, d0, d1]) rfl ⟨rfl, ((hbb.setCell (by simp) _).setCell (by simp) _).drew⟩

theorem getUnit_any {w : World} {B n c at_ n' c' fl : Nat} {A A' : Option Addr} {l : List UInt8} {cs : List Int} (h : Rd w B 1 A n (l.map bv)) (hC : CutS w B A' n' cs) (hnc : n ≤ c) (hn : n ≤ 1000000000000000000) (hB : B ≤ w.heap.size) (ha : at_ ≤ n) (hfl : fl ≤ 1) :
    Calls Tryz.prog 104 #[cur A n c at_, .slice A' n' c', .int .i64 fl] w fun e w' => e = .returned (.tuple #[.int .i64 (rdU1 l cs fl at_).1, cur A n c (rdU1 l cs fl at_).2.1, .int .i64 (rdU1 l cs fl at_).2.2]) ∧ Below w.heap.size w w' := by
  have hl := h.blen
  have hf : fl = 0 ∨ fl = 1 := by omega
  rcases hf with rfl | rfl
  · have hx : ∃ v a1 e1, rdU1 l cs 0 at_ = (v, a1, e1) ∧ ((numN (tkL l at_ 1) : Nat) : Int) = (v : Int) ∧ tkAt at_ 1 n = (a1 : Int) ∧ tkE at_ 1 n = e1 := by
      unfold rdU1
      rw [if_pos rfl]
      by_cases h1 : at_ < n
      · obtain ⟨e1, e2, e3⟩ := u8_in hl h1
        rw [if_pos (by omega)]
        exact ⟨_, _, _, rfl, e1, e2, e3⟩
      · obtain rfl : at_ = n := by omega
        obtain ⟨e1, e2, e3⟩ := u8_end hl
        rw [if_neg (by omega)]
        exact ⟨_, _, _, rfl, by rw [e1], e2, e3⟩
    obtain ⟨v, a1, e1, hr, x1, x2, x3⟩ := hx
    rw [hr]
    refine getUnit_one fun W hb => ?_
    have := u8_any (at_ := (at_ : Int)) (h.belowMono hb hB) hnc hn (Nat.le_trans hB hb.size)
    rw [x1, x2, x3] at this
    exact this
  · have HI : ∀ W, Below w.heap.size w W → Calls Tryz.prog 111 #[.slice A' n' c', .int .i64 ((at_ : Int) + 1)] W fun e w' => e = .returned (.bool (cs.contains ((at_ : Int) + 1))) ∧ Below W.heap.size W w' := fun W hb => isCut_any (hC.belowMono hb hB)
    have hU := fun (W : World) (hb : Below w.heap.size w W) => u16_any (at_ := (at_ : Int)) (h.belowMono hb hB) hnc hn (Nat.le_trans hB hb.size)
    unfold rdU1
    rw [if_neg (by decide)]
    by_cases h1 : at_ + 1 < n
    · obtain ⟨e1, e2, e3⟩ := u16_in hl h1
      rw [e1, e2, e3] at hU
      rw [if_pos (by omega)]
      refine getUnit_two (by omega) hU HI ?_
      cases hc : cs.contains ((at_ : Int) + 1)
      · rw [if_neg (by decide)]
        exact .inr (.inl ⟨rfl, rfl, rfl⟩)
      · rw [if_pos rfl]
        exact .inr (.inr ⟨rfl, rfl, rfl⟩)
    · obtain ⟨e1, e2, e3⟩ := u16_end hl ha h1
      rw [e1, e2, e3] at hU
      rw [if_neg (by omega)]
      exact getUnit_two (by omega) hU HI (.inl ⟨by decide, rfl⟩)
end Go.Proofs.YtllcecnkbndokaaGreatDoor
