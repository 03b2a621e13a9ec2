/- The reference's reading of runes, plainly: one step of it is one of the decoder's. No condition; no model. -/
/- cashbookref7.Runes by its contract. Condition: the text is not too long. -/
/- Rows of one's own from a lower bound on. No condition. -/
/- cashbookref7.units, cashbookref7.Units by their contracts. Condition: the text is not too long; the runes read as such. -/
import Derived.Test.YtmbjmgmnicacpaaGreatDoorVl
import Derived.Test.YtmbjmgmnicacpaaGreatDoorUnits
import Derived.Laws.BitsAllLaws
import Derived.Test.YtmbjmgmnicacpaaGreatDoorBytes
namespace Go.Proofs.YtmbjmgmnicacpaaGreatDoor
open Go.Lib

/-- How many bytes follow a first one; 4: it is none. -/
def clsN (c : Nat) : Nat := if c < 128 then 0 else if c < 194 then 4 else if c < 224 then 1 else if c < 240 then 2 else if c < 245 then 3 else 4
def v0N (c : Nat) : Nat := if clsN c = 0 then c else if clsN c = 1 then c % 32 else if clsN c = 2 then c % 16 else c % 8
def leastN (c : Nat) : Nat := if clsN c = 0 then 0 else if clsN c = 1 then 128 else if clsN c = 2 then 2048 else 65536
/-- The number that so many bytes behind a first one make. -/
def foldN (l : List UInt8) (v0 i : Nat) : Nat → Nat
  | 0 => v0
  | k + 1 => foldN l v0 i k * 64 + (l.getD (i + (k + 1)) 0).toNat % 64
def contN (l : List UInt8) (i k : Nat) : Prop := (l.getD (i + k) 0).toNat / 64 = 2
def badV (v least : Nat) : Prop := v < least ∨ (55296 ≤ v ∧ v < 57344) ∨ 1114111 < v

theorem cls_cases (c : Nat) : (clsN c = 0 ∧ c < 128) ∨ (clsN c = 1 ∧ 194 ≤ c ∧ c < 224) ∨ (clsN c = 2 ∧ 224 ≤ c ∧ c < 240) ∨ (clsN c = 3 ∧ 240 ≤ c ∧ c < 245) ∨ (clsN c = 4 ∧ 128 ≤ c ∧ (c < 194 ∨ 245 ≤ c)) := by
  unfold clsN
  by_cases h1 : c < 128
  · rw [if_pos h1]; omega
  · rw [if_neg h1]
    by_cases h2 : c < 194
    · rw [if_pos h2]; omega
    · rw [if_neg h2]
      by_cases h3 : c < 224
      · rw [if_pos h3]; omega
      · rw [if_neg h3]
        by_cases h4 : c < 240
        · rw [if_pos h4]; omega
        · rw [if_neg h4]
          by_cases h5 : c < 245
          · rw [if_pos h5]; omega
          · rw [if_neg h5]; omega
theorem cls_le (c : Nat) : clsN c ≤ 4 := by have := cls_cases c; omega

theorem getD_drop' (l : List UInt8) (i k : Nat) : (l.drop i).getD k 0 = l.getD (i + k) 0 := by simp [List.getD_eq_getElem?_getD]

/-- Where the step is good it is the decoder's. -/
theorem step_good (l : List UInt8) (i c : Nat) (hc : (l.getD i 0).toNat = c) (h4 : clsN c ≠ 4) (hl : clsN c < l.length - i) (hk : ∀ k, 1 ≤ k → k ≤ clsN c → contN l i k)
    (hb : ¬ badV (foldN l (v0N c) i (clsN c)) (leastN c)) : decodeL (l.drop i) = (foldN l (v0N c) i (clsN c), clsN c + 1) := by
  have e : ∀ k, (l.drop i).getD k 0 = l.getD (i + k) 0 := getD_drop' l i
  have hlen : (l.drop i).length = l.length - i := List.length_drop ..
  rw [decodeL_N, hlen, e 0, e 1, e 2, e 3]
  simp only [Nat.add_zero]
  rw [hc]
  have k1 := (l.getD (i + 1) 0).toNat_lt
  have k2 := (l.getD (i + 2) 0).toNat_lt
  have k3 := (l.getD (i + 3) 0).toNat_lt
  have hcl : c < 256 := by rw [← hc]; exact (l.getD i 0).toNat_lt
  have hcase : clsN c = 0 ∨ clsN c = 1 ∨ clsN c = 2 ∨ clsN c = 3 := by have := cls_le c; omega
  rcases hcase with h | h | h | h
  · have h1 : c < 128 := by have := cls_cases c; omega
    rw [h]
    simp only [foldN, v0N, h, if_true]
    unfold decodeN
    rw [if_pos h1]
  · have h1 : 194 ≤ c ∧ c < 224 := by have := cls_cases c; omega
    have c1 := hk 1 (by omega) (by omega)
    unfold contN at c1
    rw [h] at hl hb ⊢
    simp only [foldN, v0N, leastN, badV, h] at hb ⊢
    simp only [Nat.one_ne_zero, if_false, if_true, Nat.zero_add] at hb ⊢
    unfold decodeN
    rw [if_neg (by omega), if_pos ⟨by omega, by omega, c1⟩, if_pos (by omega)]
  · have h1 : 224 ≤ c ∧ c < 240 := by have := cls_cases c; omega
    have c1 := hk 1 (by omega) (by omega)
    have c2 := hk 2 (by omega) (by omega)
    unfold contN at c1 c2
    rw [h] at hl hb ⊢
    simp only [foldN, v0N, leastN, badV, h] at hb ⊢
    simp (config := { decide := true }) only [if_false, if_true, Nat.zero_add, Nat.reduceAdd] at hb ⊢
    unfold decodeN
    rw [if_neg (by omega), if_neg (by omega), if_pos ⟨by omega, ⟨by omega, c1⟩, by omega, c2⟩, if_pos (by omega)]
    refine Prod.ext ?_ rfl
    simp only
    omega
  · have h1 : 240 ≤ c ∧ c < 245 := by have := cls_cases c; omega
    have c1 := hk 1 (by omega) (by omega)
    have c2 := hk 2 (by omega) (by omega)
    have c3 := hk 3 (by omega) (by omega)
    unfold contN at c1 c2 c3
    rw [h] at hl hb ⊢
    simp only [foldN, v0N, leastN, badV, h] at hb ⊢
    simp (config := { decide := true }) only [if_false, Nat.zero_add, Nat.reduceAdd] at hb ⊢
    unfold decodeN
    rw [if_neg (by omega), if_neg (by omega), if_neg (by omega), if_pos ⟨by omega, ⟨by omega, c1⟩, ⟨by omega, c2⟩, by omega, c3⟩, if_pos (by omega)]
    refine Prod.ext ?_ rfl
    simp only
    omega
/-- Where it is not the decoder tells that it is none. -/
theorem step_bad (l : List UInt8) (i c : Nat) (hi : i < l.length) (hc : (l.getD i 0).toNat = c)
    (h : clsN c = 4 ∨ l.length - i ≤ clsN c ∨ (∃ k, 1 ≤ k ∧ k ≤ clsN c ∧ ¬ contN l i k) ∨ badV (foldN l (v0N c) i (clsN c)) (leastN c)) : decodeL (l.drop i) = (65533, 1) := by
  have e : ∀ k, (l.drop i).getD k 0 = l.getD (i + k) 0 := getD_drop' l i
  have hlen : (l.drop i).length = l.length - i := List.length_drop ..
  rw [decodeL_N, hlen, e 0, e 1, e 2, e 3]
  simp only [Nat.add_zero]
  rw [hc]
  have k1 := (l.getD (i + 1) 0).toNat_lt
  have k2 := (l.getD (i + 2) 0).toNat_lt
  have k3 := (l.getD (i + 3) 0).toNat_lt
  have hcl : c < 256 := by rw [← hc]; exact (l.getD i 0).toNat_lt
  rcases decodeN_shape (l.length - i) c (l.getD (i + 1) 0).toNat (l.getD (i + 2) 0).toNat (l.getD (i + 3) 0).toNat with ⟨g, e⟩ | ⟨g1, g2, g3, gv, e⟩ | ⟨g1, g2, g3, g4, gv, gs, e⟩ | ⟨g1, g2, g3, g4, g5, gv, gw, e⟩ | e
  · exfalso
    have hn : clsN c = 0 := by unfold clsN; rw [if_pos g]
    rcases h with h | h | ⟨k, h1, h2, -⟩ | h
    · omega
    · omega
    · omega
    · rw [hn] at h
      simp only [foldN, badV, v0N, leastN, hn, if_true] at h
      omega
  · exfalso
    have hn : clsN c = 1 := by have := cls_cases c; omega
    rcases h with h | h | ⟨k, h1, h2, h3⟩ | h
    · omega
    · omega
    · obtain rfl : k = 1 := by omega
      exact h3 g3
    · rw [hn] at h
      simp only [foldN, badV, v0N, leastN, hn] at h
      simp (config := { decide := true }) only [if_false, if_true, Nat.zero_add] at h
      omega
  · exfalso
    have hn : clsN c = 2 := by have := cls_cases c; omega
    rcases h with h | h | ⟨k, h1, h2, h3⟩ | h
    · omega
    · omega
    · have hk : k = 1 ∨ k = 2 := by omega
      rcases hk with rfl | rfl
      · exact h3 g3
      · exact h3 g4
    · rw [hn] at h
      simp only [foldN, badV, v0N, leastN, hn] at h
      simp (config := { decide := true }) only [if_false, if_true, Nat.zero_add, Nat.reduceAdd] at h
      omega
  · exfalso
    have hn : clsN c = 3 := by have := cls_cases c; omega
    rcases h with h | h | ⟨k, h1, h2, h3⟩ | h
    · omega
    · omega
    · have hk : k = 1 ∨ k = 2 ∨ k = 3 := by omega
      rcases hk with rfl | rfl | rfl
      · exact h3 g3
      · exact h3 g4
      · exact h3 g5
    · rw [hn] at h
      simp only [foldN, badV, v0N, leastN, hn] at h
      simp (config := { decide := true }) only [if_false, Nat.zero_add, Nat.reduceAdd] at h
      omega
  · exact e
end Go.Proofs.YtmbjmgmnicacpaaGreatDoor
namespace Go.Proofs.YtmbjmgmnicacpaaGreatDoor
open Go.RowKit Go.Lib

def ivr (x : Int) : Value := .int .i64 x
theorem intsRow : ElemRow Tryz.prog 81 3 (.int .i64 0) 1 8 := by
  obtain ⟨i, hi, h0, h1, h2⟩ := info_parts (P := Tryz.prog) (e := 3) (z := .int .i64 0) (size := 1) (bytes := 8) (by kernel_rfl)
  exact ⟨Tryz.underlying81, ⟨i, hi, h0, h1, h2⟩, rfl, by omega⟩
set_option maxRecDepth 100000 in
theorem and192F : ∀ x : Fin 256, bits .and .i64 ((x.val : Nat) : Int) 192 = ((x.val / 64 * 64 : Nat) : Int) := by decide +kernel
set_option maxRecDepth 100000 in
theorem and63F : ∀ x : Fin 256, bits .and .i64 ((x.val : Nat) : Int) 63 = ((x.val % 64 : Nat) : Int) := by decide +kernel
set_option maxRecDepth 100000 in
theorem and31F : ∀ x : Fin 256, bits .and .i64 ((x.val : Nat) : Int) 31 = ((x.val % 32 : Nat) : Int) := by decide +kernel
set_option maxRecDepth 100000 in
theorem and15F : ∀ x : Fin 256, bits .and .i64 ((x.val : Nat) : Int) 15 = ((x.val % 16 : Nat) : Int) := by decide +kernel
set_option maxRecDepth 100000 in
theorem and7F : ∀ x : Fin 256, bits .and .i64 ((x.val : Nat) : Int) 7 = ((x.val % 8 : Nat) : Int) := by decide +kernel
theorem or64 (a b : Nat) (hb : b < 64) (h : a * 64 + b < 2147483648) : bits .or .i64 ((a : Int) * 64) (b : Int) = ((a * 64 + b : Nat) : Int) := by
  rw [show ((a : Int) * 64) = ((a * 64 : Nat) : Int) by omega]
  show IntKind.i64.wrap ((BitVec.ofInt 64 ((a * 64 : Nat) : Int) ||| BitVec.ofInt 64 (b : Int)).toNat : Int) = _
  rw [BitVec.toNat_or, BitVec.ofInt_natCast, BitVec.ofInt_natCast, BitVec.toNat_ofNat, BitVec.toNat_ofNat, Nat.mod_eq_of_lt (by omega), Nat.mod_eq_of_lt (by omega), nat_join 6 (a * 64) b (by omega) hb]
  exact IntWalk.i64_in _ (by omega)

theorem fold_lt (l : List UInt8) (v0 i : Nat) (h : v0 < 128) : ∀ k, k ≤ 3 → foldN l v0 i k < 128 * 64 ^ k := by
  intro k
  induction k with
  | zero => intro _; simpa [foldN] using h
  | succ k ih =>
    intro hk
    have := ih (by omega)
    have h2 := (l.getD (i + (k + 1)) 0).toNat_lt
    rw [foldN, Nat.pow_succ]
    omega
theorem fold_lt3 (l : List UInt8) (v0 i k : Nat) (h : v0 < 128) (hk : k ≤ 3) : foldN l v0 i k < 33554432 := by
  have h1 := fold_lt l v0 i h k hk
  have h2 : 64 ^ k ≤ 64 ^ 3 := Nat.pow_le_pow_right (by omega) hk
  omega
theorem getD_at (s : ByteArray) (i : Nat) (h : i < s.size) : s.data.toList.getD i 0 = s[i]'h := by
  rw [List.getD_eq_getElem?_getD, List.getElem?_eq_getElem (by simpa using h)]
  rfl
theorem rns_good (s : ByteArray) (i r k : Nat) (h : i < s.size) (hd : decodeL (s.data.toList.drop i) = (r, k)) (hv : ¬ (r = 65533 ∧ k = 1)) :
    rns (s.data.toList.drop i) = (r : Int) :: rns (s.data.toList.drop (i + k)) ∧ validD (s.data.toList.drop i) = validD (s.data.toList.drop (i + k)) ∧ i + k ≤ s.size := by
  have hne := drop_ne s i h
  have hle := decodeL_le _ hne
  refine ⟨?_, ?_, ?_⟩
  · rw [rns_step _ hne, hd, List.drop_drop]
  · rw [validD_step _ hne, hd, if_neg hv, List.drop_drop]
  · rw [hd, List.length_drop] at hle
    simp at hle
    omega
theorem rns_none (s : ByteArray) (i : Nat) (h : i < s.size) (hd : decodeL (s.data.toList.drop i) = (65533, 1)) : validD (s.data.toList.drop i) = false := by
  rw [validD_step _ (drop_ne s i h), hd, if_pos ⟨rfl, rfl⟩]

/-- What the reference's Runes hands back. -/
def GotR (base : Nat) (l : List UInt8) (e : Ending) (w' : World) : Prop :=
  (validD l = true ∧ ∃ v n, e = .returned (.tuple #[v, .bool true]) ∧ w'.ownsRow base 3 1 v n ((rns l).map ivr)) ∨
  (validD l = false ∧ e = .returned (.tuple #[.slice none 0 0, .bool false]))

set_option maxHeartbeats 16000000 in
set_option maxRecDepth 100000 in
theorem bRunes_any {w : World} (s : ByteArray) (hs : s.size ≤ 100000000) :
    Calls Tryz.prog 46 #[.string s] w fun e w' => GotR w.heap.size s.data.toList e w' ∧ Below w.heap.size w w' := by
  obtain ⟨l, hl⟩ : ∃ l, s.data.toList = l := ⟨_, rfl⟩
  have HL := Lib.hid hl
  rw [hl]
  clear hl
  have HLEN : Hid (l.length = s.size) := Lib.hid (by rw [← HL.out]; simp)
  go_enter Tryz.func46, Tryz.ntmps46
  go_wp2
  go_loopw [4, 5] (fun s4 s5 wr => ∃ (i q : Nat) (acc : List Int), s5 = .int .i64 i ∧ wr.ownsRow w.heap.size 3 1 s4 q (acc.map ivr) ∧ i ≤ s.size ∧ q ≤ i ∧ Below w.heap.size w wr ∧ Hid (acc ++ rns (l.drop i) = rns l ∧ validD (l.drop i) = validD l)) (fun _ s5 _ => s.size - (Go.RowKit.intOf s5).toNat)
  case atStart => exact ⟨0, 0, [], rfl, World.ownsRow_nil _ _ _ _, by omega, by omega, Below.refl _ _, Lib.hid ⟨by simp, by simp⟩⟩
  case round =>
    obtain ⟨i, q, acc, rfl, ho, hi, hq, hbel, HS⟩ := hrel
    have hsz := hbel.size
    by_cases hi1 : i < s.size
    · have hi1' : (i : Int) < (s.size : Int) := by omega
      obtain ⟨c, hc⟩ : ∃ c, (l.getD i 0).toNat = c := ⟨_, rfl⟩
      have hcx : (s[i]'hi1).toNat = c := by rw [← getD_at s i hi1, HL.out]; exact hc
      have hc256 : c < 256 := by rw [← hc]; exact (l.getD i 0).toNat_lt
      have HBAD : ∀ (_ : clsN c = 4 ∨ l.length - i ≤ clsN c ∨ (∃ k, 1 ≤ k ∧ k ≤ clsN c ∧ ¬ contN l i k) ∨ badV (foldN l (v0N c) i (clsN c)) (leastN c)), validD l = false := fun h => by
        rw [← HS.out.2, ← HL.out]
        exact rns_none s i hi1 (by rw [HL.out]; exact step_bad l i c (by rw [HLEN.out]; exact hi1) hc h)
      have HGOOD : ∀ (_ : clsN c ≠ 4) (_ : clsN c < l.length - i) (_ : ∀ k, 1 ≤ k → k ≤ clsN c → contN l i k) (_ : ¬ badV (foldN l (v0N c) i (clsN c)) (leastN c)),
          (acc ++ [(foldN l (v0N c) i (clsN c) : Int)]) ++ rns (l.drop (i + (clsN c + 1))) = rns l ∧ validD (l.drop (i + (clsN c + 1))) = validD l ∧ i + (clsN c + 1) ≤ s.size := fun h1 h2 h3 h4 => by
        have hd := step_good l i c hc h1 h2 h3 h4
        obtain ⟨g1, g2, g3⟩ := rns_good s i (foldN l (v0N c) i (clsN c)) (clsN c + 1) hi1 (by rw [HL.out]; exact hd) (by
          rintro ⟨e1, e2⟩
          have hz : clsN c = 0 := by omega
          rw [hz] at e1
          have hcc := cls_cases c
          simp only [foldN, v0N, hz, if_true] at e1
          omega)
        rw [HL.out] at g1 g2
        rw [← HS.out.1, ← HS.out.2, g1, g2]
        exact ⟨by simp, rfl, g3⟩
      have HB := Lib.hid HBAD
      have HG := Lib.hid HGOOD
      have HC := Lib.hid hc
      clear HBAD HGOOD HS hc
      have hcl := cls_cases c
      have a192 := and192F
      clear a192
      rcases hcl with ⟨hn, x0⟩ | ⟨hn, x0, x1⟩ | ⟨hn, x0, x1⟩ | ⟨hn, x0, x1⟩ | ⟨hn, x0, x1⟩
      · have y0 : (c : Int) < 128 := by omega
        obtain ⟨V0, hV0⟩ : ∃ V0, v0N c = V0 := ⟨_, rfl⟩
        have hVd : c = V0 := by rw [← hV0]; simp [v0N, hn]
        have hV128 : V0 < 128 := by rw [← hVd]; omega
        have HG2 := HG.out
        have HB2 := HB.out
        clear HG HB
        rw [hn, hV0, show leastN c = 0 by simp [leastN, hn]] at HG2 HB2
        have HG := Lib.hid HG2
        have HB := Lib.hid HB2
        clear HG2 HB2 hV0
        obtain rfl : V0 = c := hVd.symm
        by_cases hrem : (s.size : Int) - (i : Int) ≤ 0
        · have hF : validD l = false := HB.out (.inr (.inl (by rw [HLEN.out]; omega)))
          have hF2 := Lib.hid hF
          clear hF HB HG
          go_wp2
          go_ret2
          exact ⟨.inr ⟨hF2.out, rfl⟩, hbel⟩
        · go_wp2
          go_loopw [8, 10] (fun s8 s10 wx => ∃ k v : Nat, s10 = .int .i64 ((k + 1 : Nat) : Int) ∧ s8 = .int .i64 v ∧ k ≤ 0 ∧ wx = wr ∧ Hid (v = foldN l V0 i k ∧ ∀ j, 1 ≤ j → j ≤ k → contN l i j)) (fun _ s10 _ => 0 + 1 - (Go.RowKit.intOf s10).toNat)
          case atStart => refine ⟨0, V0, ?_, ?_, by omega, ?_, Lib.hid (by
            refine ⟨?_, ?_⟩
            · first | rfl | trivial
            · intro j h1 h2; omega)⟩ <;> first | rfl | trivial
          case round =>
            obtain ⟨k, v, rfl, rfl, hk, rfl, HV⟩ := hrel
            by_cases hkn : k < 0
            · exact absurd hkn (by omega)
            · obtain rfl : k = 0 := by omega
              have hkn' : ¬ (((0 : Nat) + 1 : Nat) : Int) ≤ 0 := by omega
              have hv := HV.out.1
              have hvlt : v < 33554432 := by rw [hv]; exact fold_lt3 l V0 i 0 hV128 (by omega)
              have HB3 := HB.out
              have HG3 := HG.out (by decide) (by rw [HLEN.out]; omega) HV.out.2
              rw [← hv] at HB3 HG3
              have HG := Lib.hid HG3
              have HB := Lib.hid HB3
              clear HG3 HB3 hv HV
              have z0' : ¬ (v : Int) < 0 := by omega
              by_cases z1 : v < 55296
              · have z1' : ¬ (55296 : Int) ≤ (v : Int) := by omega
                have z3' : ¬ (1114111 : Int) < (v : Int) := by omega
                obtain ⟨g1, g2, g3⟩ := HG.out (by unfold badV; omega)
                have HG2 := Lib.hid (And.intro g1 g2)
                clear g1 g2 HB HG
                go_wp2_with (at_builtin; refine wpList_app intsRow rfl (.tmp 91) (.tmp 93) rfl rfl rfl (ho.alloc _) (Rd.fresh _ _ 1 1 _ rfl) ?_ ?_ ?_ ?_ ?_)
                any_goals first | rfl | (unfold maxLen; omega) | omega | (intro u hu; simp at hu; subst hu; rfl) | (simp; omega)
                intro v9 w9 o9 g9 b9
                have hbel9 := (hbel.alloc hbel.size _).trans b9
                have o9' : w9.ownsRow w.heap.size 3 1 v9 (q + 1) ((acc ++ [(v : Int)]).map ivr) := by
                  rw [List.map_append, List.map_cons, List.map_nil]
                  exact o9
                clear o9 g9 b9 ho hbel
                go_wp2
                go_roundw
                case rel => exact ⟨i + (0 + 1), q + 1, acc ++ [(v : Int)], by go_num, o9', g3, by omega, hbel9, HG2⟩
                case measure => simp [Go.RowKit.intOf]; omega
              · have z1' : (55296 : Int) ≤ (v : Int) := by omega
                by_cases z2 : v < 57344
                · have z2' : (v : Int) < 57344 := by omega
                  have hF : validD l = false := HB.out (.inr (.inr (.inr (by unfold badV; omega))))
                  have hF2 := Lib.hid hF
                  clear hF HB HG
                  go_wp2
                  go_ret2
                  exact ⟨.inr ⟨hF2.out, rfl⟩, hbel⟩
                · have z2' : ¬ (v : Int) < 57344 := by omega
                  by_cases z3 : 1114111 < v
                  · have z3' : (1114111 : Int) < (v : Int) := by omega
                    have hF : validD l = false := HB.out (.inr (.inr (.inr (by unfold badV; omega))))
                    have hF2 := Lib.hid hF
                    clear hF HB HG
                    go_wp2
                    go_ret2
                    exact ⟨.inr ⟨hF2.out, rfl⟩, hbel⟩
                  · have z3' : ¬ (1114111 : Int) < (v : Int) := by omega
                    obtain ⟨g1, g2, g3⟩ := HG.out (by unfold badV; omega)
                    have HG2 := Lib.hid (And.intro g1 g2)
                    clear g1 g2 HB HG
                    go_wp2_with (at_builtin; refine wpList_app intsRow rfl (.tmp 91) (.tmp 93) rfl rfl rfl (ho.alloc _) (Rd.fresh _ _ 1 1 _ rfl) ?_ ?_ ?_ ?_ ?_)
                    any_goals first | rfl | (unfold maxLen; omega) | omega | (intro u hu; simp at hu; subst hu; rfl) | (simp; omega)
                    intro v9 w9 o9 g9 b9
                    have hbel9 := (hbel.alloc hbel.size _).trans b9
                    have o9' : w9.ownsRow w.heap.size 3 1 v9 (q + 1) ((acc ++ [(v : Int)]).map ivr) := by
                      rw [List.map_append, List.map_cons, List.map_nil]
                      exact o9
                    clear o9 g9 b9 ho hbel
                    go_wp2
                    go_roundw
                    case rel => exact ⟨i + (0 + 1), q + 1, acc ++ [(v : Int)], by go_num, o9', g3, by omega, hbel9, HG2⟩
                    case measure => simp [Go.RowKit.intOf]; omega
      · have y0 : ¬ (c : Int) < 128 := by omega
        have y1 : (194 : Int) ≤ (c : Int) := by omega
        have y2 : (c : Int) < 224 := by omega
        have am : bits .and .i64 (c : Int) 31 = ((c % 32 : Nat) : Int) := and31F ⟨c, hc256⟩
        obtain ⟨V0, hV0⟩ : ∃ V0, v0N c = V0 := ⟨_, rfl⟩
        have hVd : c % 32 = V0 := by rw [← hV0]; simp [v0N, hn]
        have hV128 : V0 < 128 := by rw [← hVd]; omega
        have HG2 := HG.out
        have HB2 := HB.out
        clear HG HB
        rw [hn, hV0, show leastN c = 128 by simp [leastN, hn]] at HG2 HB2
        have HG := Lib.hid HG2
        have HB := Lib.hid HB2
        clear HG2 HB2 hV0
        rw [hVd] at am
        by_cases hrem : (s.size : Int) - (i : Int) ≤ 1
        · have hF : validD l = false := HB.out (.inr (.inl (by rw [HLEN.out]; omega)))
          have hF2 := Lib.hid hF
          clear hF HB HG
          go_wp2
          go_ret2
          exact ⟨.inr ⟨hF2.out, rfl⟩, hbel⟩
        · go_wp2
          go_loopw [8, 10] (fun s8 s10 wx => ∃ k v : Nat, s10 = .int .i64 ((k + 1 : Nat) : Int) ∧ s8 = .int .i64 v ∧ k ≤ 1 ∧ wx = wr ∧ Hid (v = foldN l V0 i k ∧ ∀ j, 1 ≤ j → j ≤ k → contN l i j)) (fun _ s10 _ => 1 + 1 - (Go.RowKit.intOf s10).toNat)
          case atStart => refine ⟨0, V0, ?_, ?_, by omega, ?_, Lib.hid (by
            refine ⟨?_, ?_⟩
            · first | rfl | trivial
            · intro j h1 h2; omega)⟩ <;> first | rfl | trivial
          case round =>
            obtain ⟨k, v, rfl, rfl, hk, rfl, HV⟩ := hrel
            by_cases hkn : k < 1
            · have hkn' : ((k + 1 : Nat) : Int) ≤ 1 := by omega
              have hkn2 : (k : Int) + 1 ≤ 1 := by omega
              have hik : i + (k + 1) < s.size := by omega
              have hik' : (i : Int) + ((k : Int) + 1) < (s.size : Int) := by omega
              obtain ⟨d, hd⟩ : ∃ d, (l.getD (i + (k + 1)) 0).toNat = d := ⟨_, rfl⟩
              have hdx : (s[i + (k + 1)]'hik).toNat = d := by rw [← getD_at s (i + (k + 1)) hik, HL.out]; exact hd
              have hd256 : d < 256 := by rw [← hd]; exact (l.getD (i + (k + 1)) 0).toNat_lt
              have b1 : bits .and .i64 (d : Int) 192 = ((d / 64 * 64 : Nat) : Int) := and192F ⟨d, hd256⟩
              have b2 : bits .and .i64 (d : Int) 63 = ((d % 64 : Nat) : Int) := and63F ⟨d, hd256⟩
              have hvlt : v < 33554432 := by rw [HV.out.1]; exact fold_lt3 l V0 i k hV128 (by omega)
              have b3 : bits .or .i64 ((v : Int) * 64) ((d % 64 : Nat) : Int) = ((v * 64 + d % 64 : Nat) : Int) := or64 v (d % 64) (by omega) (by omega)
              have HD := Lib.hid hd
              clear hd
              obtain ⟨D, hD⟩ : ∃ D, ((d / 64 * 64 : Nat) : Int) = D := ⟨_, rfl⟩
              rw [hD] at b1
              obtain ⟨D2, hD2⟩ : ∃ D2, ((d % 64 : Nat) : Int) = D2 := ⟨_, rfl⟩
              rw [hD2] at b2 b3
              obtain ⟨V2, hV2⟩ : ∃ V2, v * 64 + d % 64 = V2 := ⟨_, rfl⟩
              rw [hV2] at b3
              by_cases hct : d / 64 = 2
              · have hDe : D = 128 := by rw [← hD]; omega
                subst hDe
                have HV2 : Hid (V2 = foldN l V0 i (k + 1) ∧ ∀ j, 1 ≤ j → j ≤ k + 1 → contN l i j) := Lib.hid (by
                  refine ⟨by rw [foldN, HD.out, ← HV.out.1]; exact hV2.symm, fun j h1 h2 => ?_⟩
                  by_cases hj : j ≤ k
                  · exact HV.out.2 j h1 hj
                  · obtain rfl : j = k + 1 := by omega
                    unfold contN
                    rw [HD.out]
                    exact hct)
                clear HV HD hD hD2 hV2 hct
                go_wp2
                go_roundw
                case rel => refine ⟨k + 1, V2, ?_, ?_, ?_, ?_, HV2⟩ <;> first | rfl | trivial | go_num | omega
                case measure => simp [Go.RowKit.intOf]; omega
              · have hDe : (D != 128) = true := by simp; omega
                have hF : validD l = false := HB.out (.inr (.inr (.inl ⟨k + 1, by omega, by omega, by unfold contN; rw [HD.out]; exact hct⟩)))
                have hF2 := Lib.hid hF
                clear hF HB HG HV HD hD hD2 hV2 hct
                go_wp2
                go_ret2
                exact ⟨.inr ⟨hF2.out, rfl⟩, hbel⟩
            · obtain rfl : k = 1 := by omega
              have hkn' : ¬ (((1 : Nat) + 1 : Nat) : Int) ≤ 1 := by omega
              have hv := HV.out.1
              have hvlt : v < 33554432 := by rw [hv]; exact fold_lt3 l V0 i 1 hV128 (by omega)
              have HB3 := HB.out
              have HG3 := HG.out (by decide) (by rw [HLEN.out]; omega) HV.out.2
              rw [← hv] at HB3 HG3
              have HG := Lib.hid HG3
              have HB := Lib.hid HB3
              clear HG3 HB3 hv HV
              by_cases z0 : v < 128
              · have z0' : (v : Int) < 128 := by omega
                have hF : validD l = false := HB.out (.inr (.inr (.inr (by unfold badV; omega))))
                have hF2 := Lib.hid hF
                clear hF HB HG
                go_wp2
                go_ret2
                exact ⟨.inr ⟨hF2.out, rfl⟩, hbel⟩
              · have z0' : ¬ (v : Int) < 128 := by omega
                by_cases z1 : v < 55296
                · have z1' : ¬ (55296 : Int) ≤ (v : Int) := by omega
                  have z3' : ¬ (1114111 : Int) < (v : Int) := by omega
                  obtain ⟨g1, g2, g3⟩ := HG.out (by unfold badV; omega)
                  have HG2 := Lib.hid (And.intro g1 g2)
                  clear g1 g2 HB HG
                  go_wp2_with (at_builtin; refine wpList_app intsRow rfl (.tmp 91) (.tmp 93) rfl rfl rfl (ho.alloc _) (Rd.fresh _ _ 1 1 _ rfl) ?_ ?_ ?_ ?_ ?_)
                  any_goals first | rfl | (unfold maxLen; omega) | omega | (intro u hu; simp at hu; subst hu; rfl) | (simp; omega)
                  intro v9 w9 o9 g9 b9
                  have hbel9 := (hbel.alloc hbel.size _).trans b9
                  have o9' : w9.ownsRow w.heap.size 3 1 v9 (q + 1) ((acc ++ [(v : Int)]).map ivr) := by
                    rw [List.map_append, List.map_cons, List.map_nil]
                    exact o9
                  clear o9 g9 b9 ho hbel
                  go_wp2
                  go_roundw
                  case rel => exact ⟨i + (1 + 1), q + 1, acc ++ [(v : Int)], by go_num, o9', g3, by omega, hbel9, HG2⟩
                  case measure => simp [Go.RowKit.intOf]; omega
                · have z1' : (55296 : Int) ≤ (v : Int) := by omega
                  by_cases z2 : v < 57344
                  · have z2' : (v : Int) < 57344 := by omega
                    have hF : validD l = false := HB.out (.inr (.inr (.inr (by unfold badV; omega))))
                    have hF2 := Lib.hid hF
                    clear hF HB HG
                    go_wp2
                    go_ret2
                    exact ⟨.inr ⟨hF2.out, rfl⟩, hbel⟩
                  · have z2' : ¬ (v : Int) < 57344 := by omega
                    by_cases z3 : 1114111 < v
                    · have z3' : (1114111 : Int) < (v : Int) := by omega
                      have hF : validD l = false := HB.out (.inr (.inr (.inr (by unfold badV; omega))))
                      have hF2 := Lib.hid hF
                      clear hF HB HG
                      go_wp2
                      go_ret2
                      exact ⟨.inr ⟨hF2.out, rfl⟩, hbel⟩
                    · have z3' : ¬ (1114111 : Int) < (v : Int) := by omega
                      obtain ⟨g1, g2, g3⟩ := HG.out (by unfold badV; omega)
                      have HG2 := Lib.hid (And.intro g1 g2)
                      clear g1 g2 HB HG
                      go_wp2_with (at_builtin; refine wpList_app intsRow rfl (.tmp 91) (.tmp 93) rfl rfl rfl (ho.alloc _) (Rd.fresh _ _ 1 1 _ rfl) ?_ ?_ ?_ ?_ ?_)
                      any_goals first | rfl | (unfold maxLen; omega) | omega | (intro u hu; simp at hu; subst hu; rfl) | (simp; omega)
                      intro v9 w9 o9 g9 b9
                      have hbel9 := (hbel.alloc hbel.size _).trans b9
                      have o9' : w9.ownsRow w.heap.size 3 1 v9 (q + 1) ((acc ++ [(v : Int)]).map ivr) := by
                        rw [List.map_append, List.map_cons, List.map_nil]
                        exact o9
                      clear o9 g9 b9 ho hbel
                      go_wp2
                      go_roundw
                      case rel => exact ⟨i + (1 + 1), q + 1, acc ++ [(v : Int)], by go_num, o9', g3, by omega, hbel9, HG2⟩
                      case measure => simp [Go.RowKit.intOf]; omega
      · have y0 : ¬ (c : Int) < 128 := by omega
        have y1 : ¬ (c : Int) < 224 := by omega
        have y1b : (194 : Int) ≤ (c : Int) := by omega
        have y2 : (224 : Int) ≤ (c : Int) := by omega
        have y3 : (c : Int) < 240 := by omega
        have am : bits .and .i64 (c : Int) 15 = ((c % 16 : Nat) : Int) := and15F ⟨c, hc256⟩
        obtain ⟨V0, hV0⟩ : ∃ V0, v0N c = V0 := ⟨_, rfl⟩
        have hVd : c % 16 = V0 := by rw [← hV0]; simp [v0N, hn]
        have hV128 : V0 < 128 := by rw [← hVd]; omega
        have HG2 := HG.out
        have HB2 := HB.out
        clear HG HB
        rw [hn, hV0, show leastN c = 2048 by simp [leastN, hn]] at HG2 HB2
        have HG := Lib.hid HG2
        have HB := Lib.hid HB2
        clear HG2 HB2 hV0
        rw [hVd] at am
        by_cases hrem : (s.size : Int) - (i : Int) ≤ 2
        · have hF : validD l = false := HB.out (.inr (.inl (by rw [HLEN.out]; omega)))
          have hF2 := Lib.hid hF
          clear hF HB HG
          go_wp2
          go_ret2
          exact ⟨.inr ⟨hF2.out, rfl⟩, hbel⟩
        · go_wp2
          go_loopw [8, 10] (fun s8 s10 wx => ∃ k v : Nat, s10 = .int .i64 ((k + 1 : Nat) : Int) ∧ s8 = .int .i64 v ∧ k ≤ 2 ∧ wx = wr ∧ Hid (v = foldN l V0 i k ∧ ∀ j, 1 ≤ j → j ≤ k → contN l i j)) (fun _ s10 _ => 2 + 1 - (Go.RowKit.intOf s10).toNat)
          case atStart => refine ⟨0, V0, ?_, ?_, by omega, ?_, Lib.hid (by
            refine ⟨?_, ?_⟩
            · first | rfl | trivial
            · intro j h1 h2; omega)⟩ <;> first | rfl | trivial
          case round =>
            obtain ⟨k, v, rfl, rfl, hk, rfl, HV⟩ := hrel
            by_cases hkn : k < 2
            · have hkn' : ((k + 1 : Nat) : Int) ≤ 2 := by omega
              have hkn2 : (k : Int) + 1 ≤ 2 := by omega
              have hik : i + (k + 1) < s.size := by omega
              have hik' : (i : Int) + ((k : Int) + 1) < (s.size : Int) := by omega
              obtain ⟨d, hd⟩ : ∃ d, (l.getD (i + (k + 1)) 0).toNat = d := ⟨_, rfl⟩
              have hdx : (s[i + (k + 1)]'hik).toNat = d := by rw [← getD_at s (i + (k + 1)) hik, HL.out]; exact hd
              have hd256 : d < 256 := by rw [← hd]; exact (l.getD (i + (k + 1)) 0).toNat_lt
              have b1 : bits .and .i64 (d : Int) 192 = ((d / 64 * 64 : Nat) : Int) := and192F ⟨d, hd256⟩
              have b2 : bits .and .i64 (d : Int) 63 = ((d % 64 : Nat) : Int) := and63F ⟨d, hd256⟩
              have hvlt : v < 33554432 := by rw [HV.out.1]; exact fold_lt3 l V0 i k hV128 (by omega)
              have b3 : bits .or .i64 ((v : Int) * 64) ((d % 64 : Nat) : Int) = ((v * 64 + d % 64 : Nat) : Int) := or64 v (d % 64) (by omega) (by omega)
              have HD := Lib.hid hd
              clear hd
              obtain ⟨D, hD⟩ : ∃ D, ((d / 64 * 64 : Nat) : Int) = D := ⟨_, rfl⟩
              rw [hD] at b1
              obtain ⟨D2, hD2⟩ : ∃ D2, ((d % 64 : Nat) : Int) = D2 := ⟨_, rfl⟩
              rw [hD2] at b2 b3
              obtain ⟨V2, hV2⟩ : ∃ V2, v * 64 + d % 64 = V2 := ⟨_, rfl⟩
              rw [hV2] at b3
              by_cases hct : d / 64 = 2
              · have hDe : D = 128 := by rw [← hD]; omega
                subst hDe
                have HV2 : Hid (V2 = foldN l V0 i (k + 1) ∧ ∀ j, 1 ≤ j → j ≤ k + 1 → contN l i j) := Lib.hid (by
                  refine ⟨by rw [foldN, HD.out, ← HV.out.1]; exact hV2.symm, fun j h1 h2 => ?_⟩
                  by_cases hj : j ≤ k
                  · exact HV.out.2 j h1 hj
                  · obtain rfl : j = k + 1 := by omega
                    unfold contN
                    rw [HD.out]
                    exact hct)
                clear HV HD hD hD2 hV2 hct
                go_wp2
                go_roundw
                case rel => refine ⟨k + 1, V2, ?_, ?_, ?_, ?_, HV2⟩ <;> first | rfl | trivial | go_num | omega
                case measure => simp [Go.RowKit.intOf]; omega
              · have hDe : (D != 128) = true := by simp; omega
                have hF : validD l = false := HB.out (.inr (.inr (.inl ⟨k + 1, by omega, by omega, by unfold contN; rw [HD.out]; exact hct⟩)))
                have hF2 := Lib.hid hF
                clear hF HB HG HV HD hD hD2 hV2 hct
                go_wp2
                go_ret2
                exact ⟨.inr ⟨hF2.out, rfl⟩, hbel⟩
            · obtain rfl : k = 2 := by omega
              have hkn' : ¬ (((2 : Nat) + 1 : Nat) : Int) ≤ 2 := by omega
              have hv := HV.out.1
              have hvlt : v < 33554432 := by rw [hv]; exact fold_lt3 l V0 i 2 hV128 (by omega)
              have HB3 := HB.out
              have HG3 := HG.out (by decide) (by rw [HLEN.out]; omega) HV.out.2
              rw [← hv] at HB3 HG3
              have HG := Lib.hid HG3
              have HB := Lib.hid HB3
              clear HG3 HB3 hv HV
              by_cases z0 : v < 2048
              · have z0' : (v : Int) < 2048 := by omega
                have hF : validD l = false := HB.out (.inr (.inr (.inr (by unfold badV; omega))))
                have hF2 := Lib.hid hF
                clear hF HB HG
                go_wp2
                go_ret2
                exact ⟨.inr ⟨hF2.out, rfl⟩, hbel⟩
              · have z0' : ¬ (v : Int) < 2048 := by omega
                by_cases z1 : v < 55296
                · have z1' : ¬ (55296 : Int) ≤ (v : Int) := by omega
                  have z3' : ¬ (1114111 : Int) < (v : Int) := by omega
                  obtain ⟨g1, g2, g3⟩ := HG.out (by unfold badV; omega)
                  have HG2 := Lib.hid (And.intro g1 g2)
                  clear g1 g2 HB HG
                  go_wp2_with (at_builtin; refine wpList_app intsRow rfl (.tmp 91) (.tmp 93) rfl rfl rfl (ho.alloc _) (Rd.fresh _ _ 1 1 _ rfl) ?_ ?_ ?_ ?_ ?_)
                  any_goals first | rfl | (unfold maxLen; omega) | omega | (intro u hu; simp at hu; subst hu; rfl) | (simp; omega)
                  intro v9 w9 o9 g9 b9
                  have hbel9 := (hbel.alloc hbel.size _).trans b9
                  have o9' : w9.ownsRow w.heap.size 3 1 v9 (q + 1) ((acc ++ [(v : Int)]).map ivr) := by
                    rw [List.map_append, List.map_cons, List.map_nil]
                    exact o9
                  clear o9 g9 b9 ho hbel
                  go_wp2
                  go_roundw
                  case rel => exact ⟨i + (2 + 1), q + 1, acc ++ [(v : Int)], by go_num, o9', g3, by omega, hbel9, HG2⟩
                  case measure => simp [Go.RowKit.intOf]; omega
                · have z1' : (55296 : Int) ≤ (v : Int) := by omega
                  by_cases z2 : v < 57344
                  · have z2' : (v : Int) < 57344 := by omega
                    have hF : validD l = false := HB.out (.inr (.inr (.inr (by unfold badV; omega))))
                    have hF2 := Lib.hid hF
                    clear hF HB HG
                    go_wp2
                    go_ret2
                    exact ⟨.inr ⟨hF2.out, rfl⟩, hbel⟩
                  · have z2' : ¬ (v : Int) < 57344 := by omega
                    by_cases z3 : 1114111 < v
                    · have z3' : (1114111 : Int) < (v : Int) := by omega
                      have hF : validD l = false := HB.out (.inr (.inr (.inr (by unfold badV; omega))))
                      have hF2 := Lib.hid hF
                      clear hF HB HG
                      go_wp2
                      go_ret2
                      exact ⟨.inr ⟨hF2.out, rfl⟩, hbel⟩
                    · have z3' : ¬ (1114111 : Int) < (v : Int) := by omega
                      obtain ⟨g1, g2, g3⟩ := HG.out (by unfold badV; omega)
                      have HG2 := Lib.hid (And.intro g1 g2)
                      clear g1 g2 HB HG
                      go_wp2_with (at_builtin; refine wpList_app intsRow rfl (.tmp 91) (.tmp 93) rfl rfl rfl (ho.alloc _) (Rd.fresh _ _ 1 1 _ rfl) ?_ ?_ ?_ ?_ ?_)
                      any_goals first | rfl | (unfold maxLen; omega) | omega | (intro u hu; simp at hu; subst hu; rfl) | (simp; omega)
                      intro v9 w9 o9 g9 b9
                      have hbel9 := (hbel.alloc hbel.size _).trans b9
                      have o9' : w9.ownsRow w.heap.size 3 1 v9 (q + 1) ((acc ++ [(v : Int)]).map ivr) := by
                        rw [List.map_append, List.map_cons, List.map_nil]
                        exact o9
                      clear o9 g9 b9 ho hbel
                      go_wp2
                      go_roundw
                      case rel => exact ⟨i + (2 + 1), q + 1, acc ++ [(v : Int)], by go_num, o9', g3, by omega, hbel9, HG2⟩
                      case measure => simp [Go.RowKit.intOf]; omega
      · have y0 : ¬ (c : Int) < 128 := by omega
        have y1 : ¬ (c : Int) < 224 := by omega
        have y1b : (194 : Int) ≤ (c : Int) := by omega
        have y2 : ¬ (c : Int) < 240 := by omega
        have y2b : (224 : Int) ≤ (c : Int) := by omega
        have y3 : (240 : Int) ≤ (c : Int) := by omega
        have y4 : (c : Int) < 245 := by omega
        have am : bits .and .i64 (c : Int) 7 = ((c % 8 : Nat) : Int) := and7F ⟨c, hc256⟩
        obtain ⟨V0, hV0⟩ : ∃ V0, v0N c = V0 := ⟨_, rfl⟩
        have hVd : c % 8 = V0 := by rw [← hV0]; simp [v0N, hn]
        have hV128 : V0 < 128 := by rw [← hVd]; omega
        have HG2 := HG.out
        have HB2 := HB.out
        clear HG HB
        rw [hn, hV0, show leastN c = 65536 by simp [leastN, hn]] at HG2 HB2
        have HG := Lib.hid HG2
        have HB := Lib.hid HB2
        clear HG2 HB2 hV0
        rw [hVd] at am
        by_cases hrem : (s.size : Int) - (i : Int) ≤ 3
        · have hF : validD l = false := HB.out (.inr (.inl (by rw [HLEN.out]; omega)))
          have hF2 := Lib.hid hF
          clear hF HB HG
          go_wp2
          go_ret2
          exact ⟨.inr ⟨hF2.out, rfl⟩, hbel⟩
        · go_wp2
          go_loopw [8, 10] (fun s8 s10 wx => ∃ k v : Nat, s10 = .int .i64 ((k + 1 : Nat) : Int) ∧ s8 = .int .i64 v ∧ k ≤ 3 ∧ wx = wr ∧ Hid (v = foldN l V0 i k ∧ ∀ j, 1 ≤ j → j ≤ k → contN l i j)) (fun _ s10 _ => 3 + 1 - (Go.RowKit.intOf s10).toNat)
          case atStart => refine ⟨0, V0, ?_, ?_, by omega, ?_, Lib.hid (by
            refine ⟨?_, ?_⟩
            · first | rfl | trivial
            · intro j h1 h2; omega)⟩ <;> first | rfl | trivial
          case round =>
            obtain ⟨k, v, rfl, rfl, hk, rfl, HV⟩ := hrel
            by_cases hkn : k < 3
            · have hkn' : ((k + 1 : Nat) : Int) ≤ 3 := by omega
              have hkn2 : (k : Int) + 1 ≤ 3 := by omega
              have hik : i + (k + 1) < s.size := by omega
              have hik' : (i : Int) + ((k : Int) + 1) < (s.size : Int) := by omega
              obtain ⟨d, hd⟩ : ∃ d, (l.getD (i + (k + 1)) 0).toNat = d := ⟨_, rfl⟩
              have hdx : (s[i + (k + 1)]'hik).toNat = d := by rw [← getD_at s (i + (k + 1)) hik, HL.out]; exact hd
              have hd256 : d < 256 := by rw [← hd]; exact (l.getD (i + (k + 1)) 0).toNat_lt
              have b1 : bits .and .i64 (d : Int) 192 = ((d / 64 * 64 : Nat) : Int) := and192F ⟨d, hd256⟩
              have b2 : bits .and .i64 (d : Int) 63 = ((d % 64 : Nat) : Int) := and63F ⟨d, hd256⟩
              have hvlt : v < 33554432 := by rw [HV.out.1]; exact fold_lt3 l V0 i k hV128 (by omega)
              have b3 : bits .or .i64 ((v : Int) * 64) ((d % 64 : Nat) : Int) = ((v * 64 + d % 64 : Nat) : Int) := or64 v (d % 64) (by omega) (by omega)
              have HD := Lib.hid hd
              clear hd
              obtain ⟨D, hD⟩ : ∃ D, ((d / 64 * 64 : Nat) : Int) = D := ⟨_, rfl⟩
              rw [hD] at b1
              obtain ⟨D2, hD2⟩ : ∃ D2, ((d % 64 : Nat) : Int) = D2 := ⟨_, rfl⟩
              rw [hD2] at b2 b3
              obtain ⟨V2, hV2⟩ : ∃ V2, v * 64 + d % 64 = V2 := ⟨_, rfl⟩
              rw [hV2] at b3
              by_cases hct : d / 64 = 2
              · have hDe : D = 128 := by rw [← hD]; omega
                subst hDe
                have HV2 : Hid (V2 = foldN l V0 i (k + 1) ∧ ∀ j, 1 ≤ j → j ≤ k + 1 → contN l i j) := Lib.hid (by
                  refine ⟨by rw [foldN, HD.out, ← HV.out.1]; exact hV2.symm, fun j h1 h2 => ?_⟩
                  by_cases hj : j ≤ k
                  · exact HV.out.2 j h1 hj
                  · obtain rfl : j = k + 1 := by omega
                    unfold contN
                    rw [HD.out]
                    exact hct)
                clear HV HD hD hD2 hV2 hct
                go_wp2
                go_roundw
                case rel => refine ⟨k + 1, V2, ?_, ?_, ?_, ?_, HV2⟩ <;> first | rfl | trivial | go_num | omega
                case measure => simp [Go.RowKit.intOf]; omega
              · have hDe : (D != 128) = true := by simp; omega
                have hF : validD l = false := HB.out (.inr (.inr (.inl ⟨k + 1, by omega, by omega, by unfold contN; rw [HD.out]; exact hct⟩)))
                have hF2 := Lib.hid hF
                clear hF HB HG HV HD hD hD2 hV2 hct
                go_wp2
                go_ret2
                exact ⟨.inr ⟨hF2.out, rfl⟩, hbel⟩
            · obtain rfl : k = 3 := by omega
              have hkn' : ¬ (((3 : Nat) + 1 : Nat) : Int) ≤ 3 := by omega
              have hv := HV.out.1
              have hvlt : v < 33554432 := by rw [hv]; exact fold_lt3 l V0 i 3 hV128 (by omega)
              have HB3 := HB.out
              have HG3 := HG.out (by decide) (by rw [HLEN.out]; omega) HV.out.2
              rw [← hv] at HB3 HG3
              have HG := Lib.hid HG3
              have HB := Lib.hid HB3
              clear HG3 HB3 hv HV
              by_cases z0 : v < 65536
              · have z0' : (v : Int) < 65536 := by omega
                have hF : validD l = false := HB.out (.inr (.inr (.inr (by unfold badV; omega))))
                have hF2 := Lib.hid hF
                clear hF HB HG
                go_wp2
                go_ret2
                exact ⟨.inr ⟨hF2.out, rfl⟩, hbel⟩
              · have z0' : ¬ (v : Int) < 65536 := by omega
                by_cases z1 : v < 55296
                · have z1' : ¬ (55296 : Int) ≤ (v : Int) := by omega
                  have z3' : ¬ (1114111 : Int) < (v : Int) := by omega
                  exact absurd z1 (by omega)
                · have z1' : (55296 : Int) ≤ (v : Int) := by omega
                  by_cases z2 : v < 57344
                  · have z2' : (v : Int) < 57344 := by omega
                    have hF : validD l = false := HB.out (.inr (.inr (.inr (by unfold badV; omega))))
                    have hF2 := Lib.hid hF
                    clear hF HB HG
                    go_wp2
                    go_ret2
                    exact ⟨.inr ⟨hF2.out, rfl⟩, hbel⟩
                  · have z2' : ¬ (v : Int) < 57344 := by omega
                    by_cases z3 : 1114111 < v
                    · have z3' : (1114111 : Int) < (v : Int) := by omega
                      have hF : validD l = false := HB.out (.inr (.inr (.inr (by unfold badV; omega))))
                      have hF2 := Lib.hid hF
                      clear hF HB HG
                      go_wp2
                      go_ret2
                      exact ⟨.inr ⟨hF2.out, rfl⟩, hbel⟩
                    · have z3' : ¬ (1114111 : Int) < (v : Int) := by omega
                      obtain ⟨g1, g2, g3⟩ := HG.out (by unfold badV; omega)
                      have HG2 := Lib.hid (And.intro g1 g2)
                      clear g1 g2 HB HG
                      go_wp2_with (at_builtin; refine wpList_app intsRow rfl (.tmp 91) (.tmp 93) rfl rfl rfl (ho.alloc _) (Rd.fresh _ _ 1 1 _ rfl) ?_ ?_ ?_ ?_ ?_)
                      any_goals first | rfl | (unfold maxLen; omega) | omega | (intro u hu; simp at hu; subst hu; rfl) | (simp; omega)
                      intro v9 w9 o9 g9 b9
                      have hbel9 := (hbel.alloc hbel.size _).trans b9
                      have o9' : w9.ownsRow w.heap.size 3 1 v9 (q + 1) ((acc ++ [(v : Int)]).map ivr) := by
                        rw [List.map_append, List.map_cons, List.map_nil]
                        exact o9
                      clear o9 g9 b9 ho hbel
                      go_wp2
                      go_roundw
                      case rel => exact ⟨i + (3 + 1), q + 1, acc ++ [(v : Int)], by go_num, o9', g3, by omega, hbel9, HG2⟩
                      case measure => simp [Go.RowKit.intOf]; omega
      · have hF : validD l = false := HB.out (.inl hn)
        have hF2 := Lib.hid hF
        clear hF HB HG hn
        have y0 : ¬ (c : Int) < 128 := by omega
        rcases x1 with x1 | x1
        · have y1 : ¬ (194 : Int) ≤ (c : Int) := by omega
          have y2 : ¬ (224 : Int) ≤ (c : Int) := by omega
          have y3 : ¬ (240 : Int) ≤ (c : Int) := by omega
          go_wp2
          go_ret2
          exact ⟨.inr ⟨hF2.out, rfl⟩, hbel⟩
        · have y1 : (194 : Int) ≤ (c : Int) := by omega
          have y1b : ¬ (c : Int) < 224 := by omega
          have y2 : (224 : Int) ≤ (c : Int) := by omega
          have y2b : ¬ (c : Int) < 240 := by omega
          have y3 : (240 : Int) ≤ (c : Int) := by omega
          have y4 : ¬ (c : Int) < 245 := by omega
          go_wp2
          go_ret2
          exact ⟨.inr ⟨hF2.out, rfl⟩, hbel⟩
    · have hi1' : ¬ (i : Int) < (s.size : Int) := by omega
      obtain ⟨g1, g2⟩ := HS.out
      have he : l.drop i = [] := List.drop_eq_nil_of_le (by rw [HLEN.out]; omega)
      rw [he, validD_nil] at g2
      rw [he, rns_nil, List.append_nil] at g1
      subst g1
      have hV := Lib.hid g2.symm
      clear g2 HS
      go_wp2
      go_ret2
      exact ⟨.inl ⟨hV.out, _, q, rfl, ho⟩, hbel⟩
end Go.Proofs.YtmbjmgmnicacpaaGreatDoor
namespace Go.Proofs.YtmbjmgmnicacpaaGreatDoor
open Go.RowKit

theorem own_mono {w : World} {base base' : Nat} {e : TypeId} {k : Nat} {v : Value} {n : Nat} {xs : List Value} (h : w.ownsRow base e k v n xs) (hb : base' ≤ base) : w.ownsRow base' e k v n xs := by
  refine ⟨h.1, ?_⟩
  rcases h.2 with h2 | ⟨g, cap, cur, hv, hg, r⟩
  · exact .inl h2
  · exact .inr ⟨g, cap, cur, hv, by omega, r⟩
end Go.Proofs.YtmbjmgmnicacpaaGreatDoor
namespace Go.Proofs.YtmbjmgmnicacpaaGreatDoor
open Go.RowKit Go.Lib

theorem i64_or_nat (a b : Nat) (ha : a % 1024 = 0) (hb : b < 1024) (h : a + b < 2147483648) : bits .or .i64 (a : Int) (b : Int) = ((a + b : Nat) : Int) := by
  show IntKind.i64.wrap ((BitVec.ofInt 64 (a : Int) ||| BitVec.ofInt 64 (b : Int)).toNat : Int) = _
  rw [BitVec.toNat_or, BitVec.ofInt_natCast, BitVec.ofInt_natCast, BitVec.toNat_ofNat, BitVec.toNat_ofNat, Nat.mod_eq_of_lt (by omega), Nat.mod_eq_of_lt (by omega), nat_join 10 a b ha hb]
  exact IntWalk.i64_in _ (by omega)
theorem i64_or (a b : Int) (h0 : 0 ≤ a) (ha : a % 1024 = 0) (h1 : 0 ≤ b) (hb : b < 1024) (h : a + b < 2147483648) : bits .or .i64 a b = a + b := by
  have := i64_or_nat a.toNat b.toNat (by omega) (by omega) (by omega)
  rw [Int.toNat_of_nonneg h0, Int.toNat_of_nonneg h1] at this
  rw [this]
  omega
theorem i64_and (a : Int) (h0 : 0 ≤ a) (h : a < 2147483648) : bits .and .i64 a 1023 = a % 1024 := by
  obtain ⟨n, rfl⟩ : ∃ n : Nat, a = n := ⟨a.toNat, by omega⟩
  show IntKind.i64.wrap ((BitVec.ofInt 64 (n : Int) &&& BitVec.ofInt 64 (1023 : Int)).toNat : Int) = _
  rw [BitVec.toNat_and, BitVec.ofInt_natCast, BitVec.toNat_ofNat, Nat.mod_eq_of_lt (by omega), show (BitVec.ofInt 64 (1023 : Int)).toNat = 1023 by decide, nat_mask10]
  rw [IntWalk.i64_in _ (by omega)]
  omega

theorem uni_big {r : Int} (h : ¬ r < 65536) : uni r = [55296 + (r - 65536) / 1024, 56320 + (r - 65536) % 1024] := by
  unfold uni
  rw [if_neg h, show (r - 65536) % 1024 = r % 1024 by omega]

set_option maxHeartbeats 8000000 in
set_option maxRecDepth 100000 in
theorem bunits_any {w : World} {B n c : Nat} {A : Option Addr} {rs : List Int} (h : Rd w B 1 A n (rs.map ivr)) (hB : B ≤ w.heap.size) (hn : n ≤ 100000000) (hr : ∀ r ∈ rs, 0 ≤ r ∧ r ≤ 1114111) :
    Calls Tryz.prog 47 #[.slice A n c] w fun e w' => ∃ v n', e = .returned v ∧ w'.ownsRow w.heap.size 3 1 v n' ((rs.flatMap uni).map ivr) ∧ n' ≤ 2 * n ∧ Below w.heap.size w w' := by
  have hlen : rs.length = n := by have := h.len; simp at this; exact this
  go_enter Tryz.func47, Tryz.ntmps47
  go_wp2
  go_loopw [3, 4] (fun s3 s4 wr => ∃ (i q : Nat) (acc : List Int), s4 = .int .i64 i ∧ wr.ownsRow w.heap.size 3 1 s3 q (acc.map ivr) ∧ i ≤ n ∧ q ≤ 2 * i ∧ Below w.heap.size w wr ∧ Hid (acc ++ (rs.drop i).flatMap uni = rs.flatMap uni)) (fun _ s4 _ => n - (Go.RowKit.intOf s4).toNat)
  case atStart => exact ⟨0, 0, [], rfl, World.ownsRow_nil _ _ _ _, by omega, by omega, Below.refl _ _, Lib.hid (by simp)⟩
  case round =>
    obtain ⟨i, q, acc, rfl, ho, hi, hq, hbel, HS⟩ := hrel
    have hsz := hbel.size
    by_cases hin : i < n
    · have hin' : (i : Int) < (n : Int) := by omega
      obtain ⟨a, u, rfl, hab, hu, hcell⟩ := (h.belowMono hbel hB).cell hin
      obtain ⟨r, hri, rfl⟩ : ∃ r, rs[i]? = some r ∧ u = ivr r := by
        rw [List.getElem?_map, List.getElem?_eq_getElem (by omega)] at hu
        exact ⟨_, List.getElem?_eq_getElem (by omega), by simpa using hu.symm⟩
      have hrb := hr r (List.mem_of_getElem? hri)
      have HD := Lib.hid (show rs.drop i = r :: rs.drop (i + 1) by
        rw [List.drop_eq_getElem_cons (by omega)]
        rw [List.getElem?_eq_getElem (by omega)] at hri
        injection hri with hri
        rw [hri])
      unfold ivr at hcell
      clear hu hri
      by_cases hbig : r < 65536
      · have HS2 : Hid ((acc ++ [r]) ++ (rs.drop (i + 1)).flatMap uni = rs.flatMap uni) := Lib.hid (by
          have := HS.out
          rw [HD.out, List.flatMap_cons, show uni r = [r] by unfold uni; rw [if_pos hbig]] at this
          simpa using this)
        clear HS HD
        go_wp2_with (at_builtin; refine wpList_app intsRow rfl (.tmp 17) (.tmp 22) rfl rfl rfl (ho.alloc _) (Rd.fresh _ _ 1 1 _ rfl) ?_ ?_ ?_ ?_ ?_)
        any_goals first | rfl | (unfold maxLen; omega) | omega | (intro u hu; simp at hu; subst hu; rfl) | (simp; omega)
        intro v9 w9 o9 g9 b9
        have hbel9 := (hbel.alloc hbel.size _).trans b9
        have o9' : w9.ownsRow w.heap.size 3 1 v9 (q + 1) ((acc ++ [r]).map ivr) := by
          rw [List.map_append, List.map_cons, List.map_nil]
          exact o9
        clear o9 g9 b9 ho hbel hcell
        go_wp2
        go_roundw
        case rel => exact ⟨i + 1, q + 1, _, by go_num, o9', by omega, by omega, hbel9, HS2⟩
        case measure => simp [Go.RowKit.intOf]; omega
      · have HS2 : Hid ((acc ++ [55296 + (r - 65536) / 1024, 56320 + (r - 65536) % 1024]) ++ (rs.drop (i + 1)).flatMap uni = rs.flatMap uni) := Lib.hid (by
          have := HS.out
          rw [HD.out, List.flatMap_cons, uni_big hbig] at this
          simpa using this)
        have f1 : bits .or .i64 55296 ((r - 65536) / 1024) = 55296 + (r - 65536) / 1024 := i64_or _ _ (by omega) (by omega) (by omega) (by omega) (by omega)
        have f2 : bits .and .i64 (r - 65536) 1023 = (r - 65536) % 1024 := i64_and _ (by omega) (by omega)
        have f3 : bits .or .i64 56320 ((r - 65536) % 1024) = 56320 + (r - 65536) % 1024 := i64_or _ _ (by omega) (by omega) (by omega) (by omega) (by omega)
        obtain ⟨p1, hp1⟩ : ∃ p1, 55296 + (r - 65536) / 1024 = p1 := ⟨_, rfl⟩
        obtain ⟨p2, hp2⟩ : ∃ p2, 56320 + (r - 65536) % 1024 = p2 := ⟨_, rfl⟩
        rw [hp1] at f1 HS2
        rw [hp2] at f3 HS2
        clear HS HD hp1 hp2
        go_wp2_with (at_builtin; refine wpList_app intsRow rfl (.tmp 29) (.tmp 36) rfl rfl rfl (ho.alloc _) (Rd.fresh _ _ 1 2 _ rfl) ?_ ?_ ?_ ?_ ?_)
        any_goals first | rfl | (unfold maxLen; omega) | omega | (intro u hu; simp at hu; rcases hu with rfl | rfl <;> rfl) | exact ⟨rfl, rfl⟩ | (simp; omega)
        intro v9 w9 o9 g9 b9
        have hbel9 := (hbel.alloc hbel.size _).trans b9
        have o9' : w9.ownsRow w.heap.size 3 1 v9 (q + 2) ((acc ++ [p1, p2]).map ivr) := by
          rw [List.map_append, List.map_cons, List.map_cons, List.map_nil]
          exact o9
        clear o9 g9 b9 ho hbel hcell f1 f2 f3
        go_wp2
        go_roundw
        case rel => exact ⟨i + 1, q + 2, _, by go_num, o9', by omega, by omega, hbel9, HS2⟩
        case measure => simp [Go.RowKit.intOf]; omega
    · have hin' : ¬ (i : Int) < (n : Int) := by omega
      have hS := HS.out
      rw [List.drop_eq_nil_of_le (by omega), List.flatMap_nil, List.append_nil] at hS
      subst hS
      clear HS
      go_wp2
      go_ret
      exact ⟨_, rfl, q, ho, by omega, hbel⟩

theorem rns_len2 (l : List UInt8) : (rns l).length ≤ l.length := rns_len ⟨l.toArray⟩ _ l (Nat.le_refl _)

set_option maxHeartbeats 8000000 in
set_option maxRecDepth 100000 in
theorem bUnits_any {w : World} (s : ByteArray) (hs : s.size ≤ 10000000) :
    Calls Tryz.prog 29 #[.string s] w fun e w' => e = .returned (.tuple #[.int .i64 (uV s.data.toList), .int .i64 (uE s.data.toList)]) ∧ Below w.heap.size w w' := by
  have HR := Lib.hid (bRunes_any (w := w) s (by omega))
  obtain ⟨l, hl⟩ : ∃ l, s.data.toList = l := ⟨_, rfl⟩
  have hll : l.length ≤ 10000000 := by rw [← hl]; simpa using hs
  rw [hl] at HR
  rw [hl]
  clear hl
  cases hv : validD l
  · have e1 : uE l = 2 := by unfold uE; rw [if_pos hv]
    have e2 : uV l = 0 := by unfold uV; rw [e1]; rfl
    rw [e1, e2]
    clear e1 e2
    go_enter Tryz.func29, Tryz.ntmps29
    go_wp2_with fail
    refine HR.out.mono ?_
    rintro e w1 ⟨hg, hb1⟩
    rcases hg with ⟨h1, -⟩ | ⟨-, rfl⟩
    · rw [hv] at h1; cases h1
    · clear HR hv
      go_wp2
      go_ret2
      exact ⟨rfl, hb1⟩
  · have e1 : uE l = if 1000 < unN l then 4 else 0 := by unfold uE; rw [if_neg (by rw [hv]; decide)]
    have e2 : uV l = if 1000 < unN l then 0 else (unN l : Int) := by
      unfold uV; rw [e1]
      by_cases h : 1000 < unN l
      · rw [if_pos h, if_pos h]; rfl
      · rw [if_neg h, if_neg h]; rfl
    rw [e1, e2]
    have hok := runes_ok hv
    have hln := rns_len2 l
    have HU : Hid (unN l = ((rns l).flatMap uni).length) := Lib.hid rfl
    clear e1 e2
    by_cases hN : 1000 < unN l
    · rw [if_pos hN, if_pos hN]
      have hN' : (1000 : Int) < (unN l : Int) := by omega
      clear hN
      generalize unN l = N at *
      go_enter Tryz.func29, Tryz.ntmps29
      go_wp2_with fail
      refine HR.out.mono ?_
      rintro e w1 ⟨hg, hb1⟩
      clear HR
      rcases hg with ⟨-, v, n, rfl, ho⟩ | ⟨h1, -⟩
      · obtain ⟨A1, c1, rfl, hnc, -, hr⟩ := own_form ho
        have hn1 : (rns l).length = n := by have := hr.len; simp at this; exact this
        clear ho hv
        go_wp2_with fail
        refine (bunits_any (c := c1) hr (Nat.le_refl _) (by omega) (fun r hm => ⟨(hok r hm).1, (hok r hm).2.1⟩)).mono ?_
        rintro e w2 ⟨v2, n2, rfl, ho2, -, hb2⟩
        obtain ⟨A2, c2, rfl, -, -, hr2⟩ := own_form ho2
        have hb := hb1.trans (hb2.mono hb1.size)
        obtain rfl : n2 = N := by
          have := hr2.len
          rw [List.length_map, Nat.mul_one] at this
          rw [HU.out]
          exact this.symm
        clear ho2 hr2 hr hb1 hb2 HU hok hln
        go_wp2
        go_ret2
        exact ⟨rfl, hb⟩
      · rw [hv] at h1; cases h1
    · rw [if_neg hN, if_neg hN]
      have hN' : ¬ (1000 : Int) < (unN l : Int) := by omega
      clear hN
      generalize unN l = N at *
      go_enter Tryz.func29, Tryz.ntmps29
      go_wp2_with fail
      refine HR.out.mono ?_
      rintro e w1 ⟨hg, hb1⟩
      clear HR
      rcases hg with ⟨-, v, n, rfl, ho⟩ | ⟨h1, -⟩
      · obtain ⟨A1, c1, rfl, hnc, -, hr⟩ := own_form ho
        have hn1 : (rns l).length = n := by have := hr.len; simp at this; exact this
        clear ho hv
        go_wp2_with fail
        refine (bunits_any (c := c1) hr (Nat.le_refl _) (by omega) (fun r hm => ⟨(hok r hm).1, (hok r hm).2.1⟩)).mono ?_
        rintro e w2 ⟨v2, n2, rfl, ho2, -, hb2⟩
        obtain ⟨A2, c2, rfl, -, -, hr2⟩ := own_form ho2
        have hb := hb1.trans (hb2.mono hb1.size)
        obtain rfl : n2 = N := by
          have := hr2.len
          rw [List.length_map, Nat.mul_one] at this
          rw [HU.out]
          exact this.symm
        clear ho2 hr2 hr hb1 hb2 HU hok hln
        go_wp2
        go_ret2
        exact ⟨rfl, hb⟩
      · rw [hv] at h1; cases h1
end Go.Proofs.YtmbjmgmnicacpaaGreatDoor
