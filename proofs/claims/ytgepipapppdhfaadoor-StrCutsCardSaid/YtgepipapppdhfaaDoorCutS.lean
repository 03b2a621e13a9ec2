/- str.isCut, str.getFlags by their contracts. Condition: the cuts read as rising numbers; the bytes read as such; the Cursor stands in them. -/
import Derived.Test.YtgepipapppdhfaaDoorU
import Derived.Test.YtgepipapppdhfaaDoorShelf
namespace Go.Proofs.YtgepipapppdhfaaDoor
open Go.RowKit Go.Lib

def iv (x : Int) : Value := .int .i64 x
/-- A slice of cuts: rising, and not too many. -/
structure CutS (w : World) (B : Nat) (A : Option Addr) (n : Nat) (cs : List Int) : Prop where
  rd : Rd w B 1 A n (cs.map iv)
  up : cs.Pairwise (· ≤ ·)
  at_ : n = 0 ∨ ∃ g o, A = some ⟨g, o, none⟩
  few : n ≤ 1000000

theorem CutS.belowMono {w w' : World} {B B' n : Nat} {A : Option Addr} {cs : List Int} (h : CutS w B A n cs) (hb : Below B' w w') (hB : B ≤ B') : CutS w' B A n cs := ⟨h.rd.belowMono hb hB, h.up, h.at_, h.few⟩
theorem CutS.len {w : World} {B n : Nat} {A : Option Addr} {cs : List Int} (h : CutS w B A n cs) : cs.length = n := by
  have := h.rd.len
  simpa using this
theorem CutS.nil (w : World) (B : Nat) (A : Option Addr) : CutS w B A 0 [] := ⟨Rd.nil _ _ _ _, .nil, .inl rfl, by omega⟩

theorem below_drewN {B : Nat} {a w : World} (h : Below B a w) : ∀ q, Below B a (w.drewN q)
  | 0 => h
  | q + 1 => (below_drewN h q).drew

theorem isCut_any {w : World} {B n c : Nat} {A : Option Addr} {cs : List Int} {x : Int} (h : CutS w B A n cs) :
    Calls Tryd.prog 38 #[.slice A n c, .int .i64 x] w fun e w' => e = .returned (.bool (cs.contains x)) ∧ Below w.heap.size w w' := by
  have hl := h.len
  rcases Nat.eq_zero_or_pos n with h0 | h0
  · subst h0
    obtain rfl : cs = [] := List.eq_nil_of_length_eq_zero hl
    clear h
    go_enter Tryd.func38, Tryd.ntmps38
    go_wp2_with fail
    refine (Tryd.slices_BinarySearch_int_empty A c x _).mono ?_
    rintro e w1 ⟨rfl, rfl⟩
    go_wp2
    go_ret
    exact ⟨rfl, Below.refl _ _⟩
  · obtain ⟨g, o, rfl⟩ : ∃ g o, A = some ⟨g, o, none⟩ := by
      rcases h.at_ with h1 | h1
      · omega
      · exact h1
    have hc : ∀ j, j < cs.length → w.cell? ⟨g, o + j, none⟩ = some (.int .i64 (cs.getD j 0)) := by
      intro j hj
      obtain ⟨a, ha, _, hcell⟩ := h.rd.at_ h0
      injection ha with ha
      subst ha
      have := hcell j (iv (cs.getD j 0)) (by rw [List.getElem?_map, List.getElem?_eq_getElem hj, List.getD_eq_getElem?_getD, List.getElem?_eq_getElem hj]; rfl)
      have he : (⟨g, o, none⟩ : Addr).add j = ⟨g, o + j, none⟩ := by
        unfold Addr.add
        split
        · rename_i hj0
          subst hj0
          rfl
        · rfl
      rw [he] at this
      exact this
    have hs : (cs.take n).Pairwise (· ≤ ·) := by rw [List.take_of_length_le (by omega)]; exact h.up
    have HC := Tryd.slices_BinarySearch_int g o n c cs x w (by omega) (by have := h.few; omega) hc hs
    rw [List.take_of_length_le (show cs.length ≤ n by omega)] at HC
    clear hc hs h
    have HC2 := Lib.hid HC
    clear HC
    generalize (cs.countP (· < x)) = K at *
    generalize cs.contains x = R at *
    go_enter Tryd.func38, Tryd.ntmps38
    go_wp2_with fail
    refine HC2.out.mono ?_
    rintro e w1 ⟨rfl, q, rfl⟩
    have hb := below_drewN (Below.refl w.heap.size w) q
    go_wp2
    go_ret
    exact ⟨rfl, hb⟩

/-- What U8 tells at a place in the bytes. -/
theorem u8_in {l : List UInt8} {n at_ : Nat} (hl : l.length = n) (h : at_ < n) : ((numN (tkL l at_ 1) : Nat) : Int) = ((l.getD at_ 0).toNat : Int) ∧ tkAt at_ 1 n = ((at_ + 1 : Nat) : Int) ∧ tkE at_ 1 n = 0 := by
  have e : tkE (at_ : Int) 1 n = 0 := by
    unfold tkE stB
    rw [if_neg (by rw [decide_eq_true (by omega)]; simp), if_neg (by omega)]
  refine ⟨?_, ?_, e⟩
  · unfold tkL
    rw [if_pos (by rw [hl]; exact e)]
    have h1 : (l.drop at_).take 1 = [l.getD at_ 0] := by
      rw [List.getD_eq_getElem?_getD, List.getElem?_eq_getElem (by omega)]
      rw [List.drop_eq_getElem_cons (by omega)]
      rfl
    have h2 : ((l.drop (at_ : Int).toNat).take (1 : Int).toNat) = [l.getD at_ 0] := by simpa using h1
    rw [h2]
    simp [numN]
  · unfold tkAt
    rw [if_pos e]
    omega
theorem u8_end {l : List UInt8} {n : Nat} (hl : l.length = n) : numN (tkL l (n : Int) 1) = 0 ∧ tkAt n 1 n = (n : Int) ∧ tkE n 1 n = 5 := by
  have e : tkE (n : Int) 1 n = 5 := by
    unfold tkE stB
    rw [if_neg (by rw [decide_eq_true (by omega)]; simp), if_pos (by omega)]
  refine ⟨?_, ?_, e⟩
  · unfold tkL
    rw [if_neg (by rw [hl, e]; decide)]
    rfl
  · unfold tkAt
    rw [if_neg (by rw [e]; decide)]
end Go.Proofs.YtgepipapppdhfaaDoor
