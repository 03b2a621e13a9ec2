/- cashbooklaw10.known by its contract: it returns true. Condition: utf8.ValidString keeps its contract. -/
import Derived.Test.YtlaiocdnddnnaaaGreatDoorNe
import Derived.Test.YtlaiocdnddnnaaaGreatDoorSm
import Derived.Test.YtlaiocdnddnnaaaGreatDoorCx
set_option linter.unusedVariables false
set_option linter.unusedSimpArgs false
namespace Go.Proofs.YtlaiocdnddnnaaaGreatDoor
open Go.RowKit
def tA : Tr := .mk (atP 1 2) []
def tS : Tr := .mk (spanP 0 3 1) []
def tN : Tr := .mk (nameP 3) []
def tC : Tr := .mk (callP 0) [tS, tN]
def eP : Pay := binP 1
def fP : Pay := { binP 1 with sheet := 1 }
def eK : List Tr := [tA, tC]
theorem short_of {l : List (Pay × Nat)} (h : (l.all fun q => decide (q.1.vt.size ≤ 140737488355328)) = true) : ShortN l := fun q hq => of_decide_eq_true (List.all_eq_true.1 h q hq)
structure KG (w W : World) (g1 g3 s : Nat) (A : Option Addr) (c : Nat) : Prop where
  k1 : Bk W g1 47 (ec eP (.slice A eK.length c)).toArray
  k3 : Bk W g3 47 (ec fP (.slice A eK.length c)).toArray
  r0 : W.cell? ⟨s, 0, none⟩ = some (.int .i64 2)
  r2 : W.cell? ⟨s, 52, none⟩ = some (.int .i64 3)
  hs : s < W.heap.size
  hE : AtT W eP eK A c
  hb : Below w.heap.size w W
theorem KG.on {w W W' : World} {g1 g3 s : Nat} {A : Option Addr} {c : Nat} (h : KG w W g1 g3 s A c) (hb : Below W.heap.size W W') : KG w W' g1 g3 s A c :=
  ⟨h.k1.below hb h.k1.lt, h.k3.below hb h.k3.lt, (hb.cell (p := ⟨s, 0, none⟩) h.hs).trans h.r0, (hb.cell (p := ⟨s, 52, none⟩) h.hs).trans h.r2, Nat.lt_of_lt_of_le h.hs hb.size, h.hE.below hb, h.hb.trans (hb.mono h.hb.size)⟩
theorem KG.f {w W : World} {g1 g3 s : Nat} {A : Option Addr} {c : Nat} (h : KG w W g1 g3 s A c) : AtT W fP eK A c := h.hE
theorem no_kids {W : World} (p : Pay) : AtV W p [] (.agg (ec p (.slice none 0 0)).toArray) := ⟨none, 0, rfl, Nat.le_refl _, RowF.nil _ _ _ _⟩
end Go.Proofs.YtlaiocdnddnnaaaGreatDoor
