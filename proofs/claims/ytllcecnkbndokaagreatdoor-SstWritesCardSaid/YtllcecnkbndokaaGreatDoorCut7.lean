/- rec.Cut by its contract. Conditions: the record's slices read as lists; its Data is no longer than 10^9. -/
import Derived.Test.YtllcecnkbndokaaGreatDoorSame7
import Derived.Test.YtllcecnkbndokaaGreatDoorPut2
import Derived.Test.YtllcecnkbndokaaGreatDoorOnce
import Derived.Deep.RegionHeld3
namespace Go.Proofs.YtllcecnkbndokaaGreatDoor
open Go.RowKit

/-- The cuts that are as few as may be: k of them. -/
def cutsK (k : Nat) : List Int := (List.range k).map fun (i : Nat) => 224 * ((i : Int) + 1)

theorem cutsK_len (k : Nat) : (cutsK k).length = k := by simp [cutsK]
theorem cutsK_succ (k : Nat) : cutsK (k + 1) = cutsK k ++ [224 * ((k : Int) + 1)] := by simp [cutsK, List.range_succ]

theorem iv_one (l : List Int) : ∀ u ∈ l.map iv, u.oneCell' = true := by
  intro u hu
  obtain ⟨c, _, rfl⟩ := List.mem_map.1 hu
  rfl

/-- What holds in rec.Cut's loop: its two boxes, the cuts so far. -/
structure CutI (w : World) (t at_ : Int) (D C : Option Addr) (dn dc cn cc : Nat) (k : Nat) (cv : Value) (W : World) : Prop where
  box : Bk W w.heap.size 30 #[.int .i64 t, .slice D dn dc, .slice C cn cc, .int .i64 at_]
  res : Bk W (w.heap.size + 1) 30 #[.int .i64 0, .slice none 0 0, .slice none 0 0, .int .i64 0]
  own : W.ownsRow (w.heap.size + 2) 3 1 cv k ((cutsK k).map iv)
  bel : Below w.heap.size w W

theorem CutI.drew {w : World} {t at_ : Int} {D C : Option Addr} {dn dc cn cc k : Nat} {cv : Value} {W : World} (h : CutI w t at_ D C dn dc cn cc k cv W) : CutI w t at_ D C dn dc cn cc k cv W.drew :=
  ⟨h.box, h.res, h.own, h.bel.drew⟩
theorem CutI.below {w : World} {t at_ : Int} {D C : Option Addr} {dn dc cn cc k : Nat} {cv : Value} {W W' : World} (h : CutI w t at_ D C dn dc cn cc k cv W) (hb : Below W.heap.size W W') : CutI w t at_ D C dn dc cn cc k cv W' :=
  ⟨h.box.below hb h.box.lt, h.res.below hb h.res.lt, ⟨h.own.1, by
    rcases h.own.2 with h2 | ⟨g, cap, cur, hv, hg, hh, r⟩
    · exact .inl h2
    · exact .inr ⟨g, cap, cur, hv, hg, by rw [hb.block g (Array.getElem?_eq_some_iff.1 hh).1]; exact hh, r⟩⟩, h.bel.trans (hb.mono h.bel.size)⟩

theorem CutI.next {w : World} {t at_ : Int} {D C : Option Addr} {dn dc cn cc k : Nat} {cv v' : Value} {W W' : World} (h : CutI w t at_ D C dn dc cn cc k cv W) (hb : Below (w.heap.size + 2) W W')
    (ho : W'.ownsRow (w.heap.size + 2) 3 1 v' (k + 1) ((cutsK k).map iv ++ [.int .i64 (224 * ((k : Int) + 1))])) : CutI w t at_ D C dn dc cn cc (k + 1) v' W' :=
  ⟨h.box.below hb (by omega), h.res.below hb (by omega), by rw [cutsK_succ, List.map_append]; exact ho, h.bel.trans (hb.mono (by omega))⟩

/-- The same without the second box. -/
structure CutJ (w : World) (t at_ : Int) (D C : Option Addr) (dn dc cn cc : Nat) (k : Nat) (cv : Value) (W : World) : Prop where
  box : Bk W w.heap.size 30 #[.int .i64 t, .slice D dn dc, .slice C cn cc, .int .i64 at_]
  own : W.ownsRow (w.heap.size + 2) 3 1 cv k ((cutsK k).map iv)
  bel : Below w.heap.size w W
theorem CutI.j {w : World} {t at_ : Int} {D C : Option Addr} {dn dc cn cc k : Nat} {cv : Value} {W : World} (h : CutI w t at_ D C dn dc cn cc k cv W) : CutJ w t at_ D C dn dc cn cc k cv W := ⟨h.box, h.own, h.bel⟩
theorem CutJ.set {w : World} {t at_ : Int} {D C : Option Addr} {dn dc cn cc k : Nat} {cv : Value} {W : World} (h : CutJ w t at_ D C dn dc cn cc k cv W) (i : Nat) (u : Value) : CutJ w t at_ D C dn dc cn cc k cv (W.setCell ⟨w.heap.size + 1, i, none⟩ u) := by
  refine ⟨?_, ownsRow_setCell_below h.own (a := ⟨w.heap.size + 1, i, none⟩) (by show _ + 1 < _ + 2; omega) u, h.bel.setCell (p := ⟨w.heap.size + 1, i, none⟩) (by show _ ≤ _ + 1; omega) u⟩
  have hb := h.box
  unfold Bk at *
  rw [Below.heap_setCell _ _ _ _ (by show w.heap.size ≠ w.heap.size + 1; omega), hb]
theorem CutJ.cells {w : World} {t at_ : Int} {D C : Option Addr} {dn dc cn cc k : Nat} {cv : Value} {W : World} (h : CutJ w t at_ D C dn dc cn cc k cv W) :
    W.cell? ⟨w.heap.size, 0, none⟩ = some (.int .i64 t) ∧ W.cell? ⟨w.heap.size, 1, none⟩ = some (.slice D dn dc) ∧ W.cell? ⟨w.heap.size, 3, none⟩ = some (.int .i64 at_) ∧ CutJ w t at_ D C dn dc cn cc k cv W :=
  ⟨h.box.cell 0, h.box.cell 1, h.box.cell 3, h⟩

set_option maxHeartbeats 2000000 in
theorem cut_any {w : World} {B : Nat} {r : RecM} {D C : Option Addr} {dc cc : Nat} (h : RecRd w B r D dc C cc) (hB : B ≤ w.heap.size) (hn : r.data.length ≤ 1000000000) :
    Calls Tryz.prog 45 #[.agg #[.int .i64 r.type, .slice D r.data.length dc, .slice C r.cuts.length cc, .int .i64 r.at_]] w fun e w' =>
      ∃ dv cv, e = .returned (.agg #[.int .i64 r.type, dv, cv, .int .i64 r.at_]) ∧ w'.ownsRow w.heap.size 5 1 dv r.data.length (r.data.map bv) ∧
        w'.ownsRow w.heap.size 3 1 cv ((r.data.length - 1) / 224) ((cutsK ((r.data.length - 1) / 224)).map iv) ∧ Below w.heap.size w w' := by
  have hd := h.data
  clear h
  obtain ⟨t, data, cuts, at_⟩ := r
  simp only at *
  generalize hdn : data.length = dn at *
  generalize hcn : cuts.length = cn at *
  have HD := Lib.hid hdn
  clear hdn hcn
  go_enter Tryz.func45, Tryz.ntmps45
  go_wp2
  go_loopw [3, 4] (fun cv i wr => ∃ k : Nat, i = .int .i64 (224 * ((k : Int) + 1)) ∧ (k = 0 ∨ 224 * k < dn) ∧ CutI w t at_ D C dn dc cn cc k cv wr) (fun _ i _ => dn - (intOf i).toNat + 224)
  case atStart =>
    exact ⟨0, rfl, .inl rfl, (Bk.new w _ _).alloc _, by simpa using Bk.new (w.alloc _) 30 _, World.ownsRow_nil _ _ _ _, ((Below.refl _ _).alloc (Nat.le_refl _) _).alloc (by simp) _⟩
  case round =>
    obtain ⟨k, rfl, hk, I⟩ := hrel
    have c0 := I.box.cell 0
    have c1 := I.box.cell 1
    have c3 := I.box.cell 3
    have hsz := I.res.lt
    simp only [List.getElem?_toArray, List.getElem?_cons_zero, List.getElem?_cons_succ] at c0 c1 c3
    by_cases hlt : 224 * (k + 1) < dn
    · have hlt' : 224 * ((k : Int) + 1) < (dn : Int) := by omega
      go_wp2_with (at_builtin; refine wpList_app intsRow rfl (.tmp 12) (.tmp 14) rfl rfl rfl (I.own.alloc _) (Rd.fresh _ _ 1 1 _ rfl) ?_ ?_ ?_ ?_ ?_)
      · intro u hu; simp at hu; subst hu; rfl
      · unfold maxLen; omega
      · omega
      · simp; omega
      · intro v' w' ho _ hbel
        go_wp2
        go_roundw
        case rel => exact ⟨k + 1, by go_num, .inr (by omega), I.next (((Below.refl _ _).alloc (by omega) _).trans hbel) ho⟩
        case measure => simp [intOf]; omega
    · have hlt' : ¬ 224 * ((k : Int) + 1) < (dn : Int) := by omega
      have hkk : (dn - 1) / 224 = k := by omega
      have HK := Lib.hid hkk
      clear hkk
      obtain ⟨Cv, cvc, rfl, -, -, -⟩ := own_form I.own
      go_wp2
      go_region_held3 (fun W => W.cell? ⟨w.heap.size, 0, none⟩ = some (.int .i64 t) ∧ W.cell? ⟨w.heap.size, 1, none⟩ = some (.slice D dn dc) ∧ W.cell? ⟨w.heap.size, 3, none⟩ = some (.int .i64 at_) ∧ CutJ w t at_ D C dn dc cn cc k (.slice Cv k cvc) W)
        (first | exact I.drew.j.cells | exact CutJ.cells (CutI.j (by assumption)) | exact ((((CutI.j (by assumption : CutI w t at_ D C dn dc cn cc k (.slice Cv k cvc) _)).set 0 _).set 1 _).set 2 _).set 3 _ |>.cells)
        ((go_at_call 62
          refine (clone_any (B := B) (l := data) ?_ ?_ ?_).mono ?_
          · exact hd.belowMono I.drew.bel hB
          · exact Nat.le_trans hB I.drew.bel.size
          · omega
          rintro e w' ⟨v', rfl, ho, hbel⟩
          obtain ⟨Dv, dvc, rfl, -, -, -⟩ := own_form ho
          have I' := I.drew.below hbel
          have r0 : w'.cell? ⟨w.heap.size + 1, 0, none⟩ = some (.int .i64 0) := I'.res.cell 0
          have r1 : w'.cell? ⟨w.heap.size + 1, 1, none⟩ = some (.slice none 0 0) := I'.res.cell 1
          have r2 : w'.cell? ⟨w.heap.size + 1, 2, none⟩ = some (.slice none 0 0) := I'.res.cell 2
          have r3 : w'.cell? ⟨w.heap.size + 1, 3, none⟩ = some (.int .i64 0) := I'.res.cell 3
          have z0 := I'.res.frozen 0
          have z1 := I'.res.frozen 1
          have z2 := I'.res.frozen 2
          have z3 := I'.res.frozen 3))
      go_wp2
      have J' := (((I'.j.set 0 (.int .i64 t)).set 1 (.slice Dv dn dvc)).set 2 (.slice Cv k cvc)).set 3 (.int .i64 at_)
      have ho' := ownsRow_setCell_below (ownsRow_setCell_below (ownsRow_setCell_below (ownsRow_setCell_below ho (a := ⟨w.heap.size + 1, 0, none⟩) hsz (.int .i64 t)) (a := ⟨w.heap.size + 1, 1, none⟩) hsz (.slice Dv dn dvc)) (a := ⟨w.heap.size + 1, 2, none⟩) hsz (.slice Cv k cvc)) (a := ⟨w.heap.size + 1, 3, none⟩) hsz (.int .i64 at_)
      refine bodyPost_ret (v := .agg #[.int .i64 t, .slice Dv dn dvc, .slice Cv k cvc, .int .i64 at_]) ?_ rfl ⟨_, _, rfl, own_mono ho' (by show w.heap.size ≤ wr.heap.size; omega), ?_, J'.bel⟩
      · simp [results, Tryz.results45, go_sem, r0, r1, r2, r3]
      · rw [HK.out]
        exact own_mono J'.own (by omega)
end Go.Proofs.YtllcecnkbndokaaGreatDoor
