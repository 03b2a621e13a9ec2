/- What Build tells of texts told twice over, or in the other order: plainly; Build by its contract once more, all at once. Condition: utf8.ValidString keeps its contract. -/
import Derived.Test.YtllcecnkbndokaaDoorKnown7
namespace Go.Proofs.YtllcecnkbndokaaDoor
open Go.RowKit Go.Lib

theorem ckT_app {L M : List (List UInt8)} (h : ckT L = 0) (h' : ckT M = 0) : ckT (L ++ M) = 0 := by
  rw [ckT_zero] at *
  intro l hl
  rcases List.mem_append.1 hl with hl | hl
  · exact h l hl
  · exact h' l hl
theorem ckT_rev {L : List (List UInt8)} (h : ckT L = 0) : ckT L.reverse = 0 := by
  rw [ckT_zero] at *
  exact fun l hl => h l (by simpa using hl)
theorem bld_ok {L : List (List UInt8)} (h : ckT L = 0) : bT L = ddT L ∧ bU L = (L.length : Int) ∧ bA L = atT L := by
  unfold bT bU bA
  rw [if_pos h, if_pos h, if_pos h]
  exact ⟨rfl, rfl, rfl⟩
/-- What Build hands over, to read. -/
structure BR (W : World) (A : Option Addr) (c : Nat) (D : Option Addr) (d : Nat) (L : List (List UInt8)) (ps : List Nat) : Prop where
  t : Rd W W.heap.size 1 A L.length (L.map tv)
  a : Rd W W.heap.size 1 D ps.length (ps.map nv)
theorem BR.below {W W' : World} {A D : Option Addr} {c d : Nat} {L : List (List UInt8)} {ps : List Nat} (h : BR W A c D d L ps) (hb : Below W.heap.size W W') : BR W' A c D d L ps := ⟨(h.t.belowMono hb (Nat.le_refl _)).mono hb.size, (h.a.belowMono hb (Nat.le_refl _)).mono hb.size⟩
theorem buildR {w : World} {B n c : Nat} {A : Option Addr} {L : List (List UInt8)} (HV : Val w) (h : Rd w B 1 A n (L.map tv)) (hB : B ≤ w.heap.size) (hn : n ≤ 1000) (hs : ∀ l ∈ L, l.length ≤ 100000) :
    Calls Tryd.prog 8 #[.slice A n c] w fun e w' => ∃ At ct Aa ca, e = .returned (.tuple #[.agg #[.slice At (bT L).length ct, .int .i64 (bU L)], .slice Aa (bA L).length ca, .int .i64 (ckT L)]) ∧ BR w' At ct Aa ca (bT L) (bA L) ∧ Below w.heap.size w w' := by
  refine (build_any (c := c) HV h hB hn hs).mono ?_
  rintro e w1 ⟨xv, av, rfl, o1, o2, hb⟩
  obtain ⟨At, ct, rfl, -, -, r1⟩ := own_form o1
  obtain ⟨Aa, ca, rfl, -, -, r2⟩ := own_form o2
  exact ⟨At, ct, Aa, ca, rfl, ⟨r1, r2⟩, hb⟩
/-- A table in a box, and where each text stands. -/
structure KB (W : World) (g : Nat) (A : Option Addr) (c : Nat) (D : Option Addr) (d : Nat) (L : List (List UInt8)) (ps : List Nat) (u : Int) : Prop where
  k : Bk W g 26 #[.slice A L.length c, .int .i64 u]
  r : BR W A c D d L ps
theorem KB.below {W W' : World} {g c d : Nat} {A D : Option Addr} {L : List (List UInt8)} {ps : List Nat} {u : Int} (h : KB W g A c D d L ps u) (hb : Below W.heap.size W W') : KB W' g A c D d L ps u := ⟨h.k.below hb h.k.lt, h.r.below hb⟩
theorem BR.box {W : World} {c d : Nat} {A D : Option Addr} {L : List (List UInt8)} {ps : List Nat} (h : BR W A c D d L ps) (u : Int) : KB (W.alloc (.cells #[.slice A L.length c, .int .i64 u] 26)) W.heap.size A c D d L ps u := ⟨Bk.new _ _ _, h.below (bx1' W _)⟩
theorem reverse_at {L : List (List UInt8)} {k : Nat} {l : List UInt8} (hk : k < L.length) (h : L[L.length - 1 - k]? = some l) : L.reverse.take (k + 1) = L.reverse.take k ++ [l] := by
  have h1 : L.reverse[k]? = some l := by rw [List.getElem?_reverse hk]; exact h
  have hi := List.getElem?_eq_some_iff.1 h1
  rw [← List.take_append_getElem hi.1, hi.2]
end Go.Proofs.YtllcecnkbndokaaDoor
