/- le.Bytes by its contract. Condition: the bytes read as such. -/
import Derived.Test.YtlfnmcagpokchaaPutB
import Derived.Test.YtlfnmcagpokchaaU
namespace Go.Proofs.Ytlfnmcagpokchaa
open Go.RowKit

theorem cells_after {W w2 : World} {g g' : Nat} {T T' : TypeId} {x0 x1 y0 y1 : Value} (k : Bk W g T #[x0, x1]) (k' : Bk W g' T' #[y0, y1]) (hb : Below W.drew.heap.size W.drew w2) :
    w2.cell? ⟨g, 0, none⟩ = some x0 ∧ w2.cell? ⟨g, 1, none⟩ = some x1 ∧ w2.cell? ⟨g', 0, none⟩ = some y0 ∧ w2.cell? ⟨g', 1, none⟩ = some y1 ∧ w2.frozen? ⟨g', 0, none⟩ = false ∧ w2.frozen? ⟨g', 1, none⟩ = false := by
  have q : Bk w2 g T #[x0, x1] := (show Bk W.drew g T #[x0, x1] from k).below hb k.lt
  have q' : Bk w2 g' T' #[y0, y1] := (show Bk W.drew g' T' #[y0, y1] from k').below hb k'.lt
  exact ⟨q.cell 0, q.cell 1, q'.cell 0, q'.cell 1, q'.frozen 0, q'.frozen 1⟩

theorem own_sets {w2 : World} {base g n : Nat} {T : TypeId} {v u0 u1 : Value} {xs : List Value} (ho : w2.ownsRow base T 1 v n xs) (hg : g < base) : ((w2.setCell ⟨g, 0, none⟩ u0).setCell ⟨g, 1, none⟩ u1).ownsRow base T 1 v n xs :=
  (((Keep.refl (fun i => i = g) w2).setCell (p := ⟨g, 0, none⟩) (fun _ => rfl) u0).setCell (p := ⟨g, 1, none⟩) (fun _ => rfl) u1).own ho fun i hi e => by have := (ho.lt i hi).1; omega

set_option maxHeartbeats 1000000 in
theorem bytes_any {w : World} {B n c : Nat} {at_ k : Int} {A : Option Addr} {l : List UInt8} (h : Rd w B 1 A n (l.map bv)) (hnc : n ≤ c) (hn : n ≤ 1000000000000) (hB : B ≤ w.heap.size) :
    Calls Try.prog 13 #[.agg #[.slice A n c, .int .i64 at_], .int .i64 k] w fun e w' => ∃ v', e = .returned (.tuple #[v', .agg #[.slice A n c, .int .i64 (tkAt at_ k n)], .int .i64 (tkE at_ k n)]) ∧
      w'.ownsRow w.heap.size 5 1 v' (tkL l at_ k).length ((tkL l at_ k).map bv) ∧ Below w.heap.size w w' := by
  have hlen : (tkL l at_ k).length ≤ n := by
    unfold tkL
    split
    · rw [List.length_take, List.length_drop, h.blen]; omega
    · exact Nat.zero_le _
  have hT := take_any (k := k) (at_ := at_) (h.belowMono (two_below w (.cells #[.slice A n c, .int .i64 at_] 25) (.cells #[.slice none 0 0, .int .i64 0] 25)) hB) hnc (by omega)
  generalize tkL l at_ k = L at *
  generalize tkAt at_ k n = at1 at *
  generalize tkE at_ k n = e1 at *
  have HT := Lib.hid hT
  clear hT
  go_enter Try.func13, Try.ntmps13
  go_wp2_with fail
  refine HT.out.mono ?_
  rintro e w1 ⟨A', c', rfl, hc', hr, hb1⟩
  obtain ⟨k1, k2, hb', s1⟩ := two_boxes hb1
  have hr1 := hr.belowMono hb1 (by simp; omega)
  go_wp2
  have k2' := k2.alloc (.cells #[.slice A n c, .int .i64 at1] 25)
  have k3 := Bk.new w1 25 #[.slice A n c, .int .i64 at1]
  have hr2 := (hr1.alloc (by omega) (.cells #[.slice A n c, .int .i64 at1] 25)).drew
  have hbW := hb'.alloc hb'.size (.cells #[.slice A n c, .int .i64 at1] 25)
  generalize w1.alloc (.cells #[.slice A n c, .int .i64 at1] 25) = W at *
  have f0 := k3.cell 0
  have f1 := k3.cell 1
  have d0 := k2'.cell 0
  have d1 := k2'.cell 1
  have z0 := k2'.frozen 0
  have z1 := k2'.frozen 1
  have sW := hbW.size
  have s3 := k3.lt
  go_region_with ((go_at_call 25; refine (clone_any hr2 (by simp; omega) (by omega)).mono ?_; rintro e w2 ⟨v', rfl, ho, hb2⟩; obtain ⟨x0, x1, y0, y1, q0, q1⟩ := cells_after k3 k2' hb2))
  all_goals
    have ho' := own_sets (u0 := .slice A n c) (u1 := .int .i64 at1) ho (show w.heap.size + 1 < W.drew.heap.size by simp; omega)
    have hb3 := hbW.drew.trans (hb2.mono (by simp; omega))
    clear ho hb2
    go_wp2
    refine bodyPost_ret (v := .tuple #[v', .agg #[.slice A n c, .int .i64 at1], .int .i64 e1]) (by simp [results, Try.results13, go_sem, x0, x1, y0, y1]) rfl ⟨_, rfl, own_mono ho' (by simp; omega), (hb3.setCell (by simp) _).setCell (by simp) _⟩
end Go.Proofs.Ytlfnmcagpokchaa
