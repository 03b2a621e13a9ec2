/- cashbooklaw6.isAt by its contract; what the law on cuts wants of memory. Condition: the bytes read as such. -/
import Derived.Test.YtgepipapppdhfaaDoorCut0
import Derived.Test.YtgepipapppdhfaaDoorBUnits
import Derived.Test.YtgepipapppdhfaaDoorKnown6
namespace Go.Proofs.YtgepipapppdhfaaDoor
open Go.RowKit Go.Lib

theorem bcellAt {w : World} {B n i : Nat} {A : Option Addr} {l : List UInt8} (h : Rd w B 1 A n (l.map bv)) (hi : i < n) : ∃ a x, A = some a ∧ a.block < B ∧ l[i]? = some x ∧ w.cell? (a.add i) = some (.int .u8 ((x.toNat : Nat) : Int)) := by
  obtain ⟨a, x, ha, hb, hc, hx, -⟩ := h.byteAt hi
  exact ⟨a, x, ha, hb, hx, hc⟩
theorem icellAt {w : World} {B n i : Nat} {A : Option Addr} {l : List Int} (h : Rd w B 1 A n (l.map ivr)) (hi : i < n) : ∃ a x, A = some a ∧ a.block < B ∧ l[i]? = some x ∧ w.cell? (a.add i) = some (.int .i64 x) := by
  obtain ⟨a, u, ha, hb, hu, hc⟩ := h.cell hi
  have hl : i < l.length := by have := h.len; simp at this; omega
  rw [List.getElem?_map, List.getElem?_eq_getElem hl] at hu
  exact ⟨a, l[i], ha, hb, List.getElem?_eq_getElem hl, by rw [hc]; simpa [ivr] using hu.symm⟩
theorem keepG {w1 w2 : World} {G i : Nat} {p : Addr} {u : Value} (hb : Below G w1 w2) (hp : p.block < G) (hc : w1.cell? (p.add i) = some u) : w2.cell? (p.add i) = some u := by
  rw [hb.cell (by rw [add_block]; exact hp)]
  exact hc
theorem own_grew {w w' : World} {base base' n m : Nat} {e t : TypeId} {v v' u : Value} {xs ys : List Value} (hg : Grew w w' v v') (ho : w.ownsRow base e 1 v n xs) (ho' : w.ownsRow base' t 1 u m ys) (hne : e ≠ t) : w'.ownsRow base' t 1 u m ys := by
  refine ⟨ho'.1, ?_⟩
  rcases ho'.2 with h2 | ⟨b, cap, cr, hv, hb1, hh, r⟩
  · exact .inl h2
  · refine .inr ⟨b, cap, cr, hv, hb1, ?_, r⟩
    rw [hg.grown.block b (Array.getElem?_eq_some_iff.1 hh).1 (fun e => own_ne ho hh hne e.symm)]
    exact hh
theorem own_two (W : World) (t : TypeId) (x y : Value) : (W.alloc (.cells #[x, y] t)).ownsRow W.heap.size t 1 (.slice (some ⟨W.heap.size, 0, none⟩) 2 2) 2 [x, y] :=
  ⟨rfl, .inr ⟨W.heap.size, 2, #[x, y], rfl, Nat.le_refl _, heap_alloc_new W _, Nat.le_refl _, by simp [maxLen], rfl, rfl⟩⟩
theorem cuts_of {w : World} {base n : Nat} {v : Value} {l : List Int} (ho : w.ownsRow base 3 1 v n (l.map ivr)) (hup : l.Pairwise (· ≤ ·)) (hn : n ≤ 1000000) : ∃ A c, v = .slice A n c ∧ CutS w w.heap.size A n l := by
  obtain ⟨A, c, rfl, hnc, -, hr⟩ := own_form ho
  refine ⟨A, c, rfl, hr, hup, ?_, hn⟩
  rcases ho.2 with ⟨hv, h0⟩ | ⟨g, cap, cr, hv, -⟩
  · exact .inl h0
  · injection hv with e1
    exact .inr ⟨g, 0, e1⟩

set_option maxRecDepth 100000 in
theorem isAt_any {w : World} {B n c k : Nat} {A : Option Addr} {zs : List UInt8} (h : Rd w B 1 A n (zs.map bv)) (hn : n ≤ 1000000) :
    Calls Tryd.prog 8 #[.slice A n c, .int .i64 (k : Int)] w fun e w' => e = .returned (.bool (cutB zs k)) ∧ w' = w := by
  have hl := h.blen
  have HL := Lib.hid hl
  clear hl
  go_enter Tryd.func8, Tryd.ntmps8
  go_wp2
  go_loopw [5] (fun s5 wr => ∃ i : Nat, s5 = .int .i64 i ∧ i ≤ n ∧ wr = w ∧ Hid ((zs.take i).any (fun x => x.toNat == k) = false)) (fun s5 _ => n - (Go.RowKit.intOf s5).toNat)
  case atStart => exact ⟨0, rfl, by omega, rfl, Lib.hid (by simp)⟩
  case round =>
    obtain ⟨i, rfl, hi, rfl, HS⟩ := hrel
    by_cases hin : i < n
    · have hin' : (i : Int) < (n : Int) := by omega
      obtain ⟨pz, x, rfl, hab, hxi, hcell⟩ := bcellAt h hin
      by_cases hx : x.toNat = k
      · have HF : Hid (cutB zs k = true) := Lib.hid (by
          unfold cutB
          rw [List.any_eq_true]
          exact ⟨x, List.mem_of_getElem? hxi, by simpa using hx⟩)
        have hk256 : k < 256 := by rw [← hx]; exact x.toNat_lt
        rw [hx] at hcell
        have hkk : ((k : Int) == (k : Int)) = true := by simp
        clear HS hxi hx
        go_wp2
        go_ret
        exact ⟨by rw [HF.out]; rfl, rfl⟩
      · have HS2 : Hid ((zs.take (i + 1)).any (fun x => x.toNat == k) = false) := Lib.hid (by
          have hi2 := (List.getElem?_eq_some_iff.1 hxi).1
          rw [← List.take_append_getElem hi2, List.any_append, HS.out]
          rw [List.getElem?_eq_getElem hi2] at hxi
          injection hxi with hxi
          rw [hxi]
          simpa using hx)
        obtain ⟨X, hX⟩ : ∃ X : Int, ((x.toNat : Nat) : Int) = X := ⟨_, rfl⟩
        have hX0 : 0 ≤ X := by omega
        have hX1 : X < 256 := by have := x.toNat_lt; omega
        have hx2 : (X == (k : Int)) = false := by simp; omega
        have hx3 : ¬ (X = (k : Int)) := by omega
        rw [hX] at hcell
        clear HS hxi hX hx
        go_wp2
        go_roundw
        case rel => refine ⟨i + 1, ?_, ?_, ?_, HS2⟩ <;> first | rfl | trivial | go_num | omega
        case measure => simp [Go.RowKit.intOf]; omega
    · have hin' : ¬ (i : Int) < (n : Int) := by omega
      have HF : Hid (cutB zs k = false) := Lib.hid (by
        have := HS.out
        rw [List.take_of_length_le (by rw [HL.out]; omega)] at this
        exact this)
      go_wp2
      go_ret
      exact ⟨by rw [HF.out]; rfl, rfl⟩
end Go.Proofs.YtgepipapppdhfaaDoor
