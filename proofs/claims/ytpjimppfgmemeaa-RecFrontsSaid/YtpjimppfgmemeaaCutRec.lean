/- cashbookref7.CutRec by its contract. Conditions: the record's slices read as lists. -/
import Derived.Test.YtpjimppfgmemeaaSameRec
namespace Go.Proofs.Ytpjimppfgmemeaa
open Go.RowKit

structure CutR (w : World) (t at_ : Int) (D : Option Addr) (dn dc k : Nat) (cv : Value) (W : World) : Prop where
  box : Bk W w.heap.size 27 #[.int .i64 t, .slice D dn dc, cv, .int .i64 at_]
  res : Bk W (w.heap.size + 1) 27 #[.int .i64 0, .slice none 0 0, .slice none 0 0, .int .i64 0]
  own : W.ownsRow (w.heap.size + 2) 3 1 cv k ((cutsK k).map iv)
  bel : Below w.heap.size w W

theorem Bk.other {w : World} {g : Nat} {t : TypeId} {cs : Array Value} (h : Bk w g t cs) {p : Addr} (hp : p.block ≠ g) (u : Value) : Bk (w.setCell p u) g t cs := by
  unfold Bk at *
  rw [Below.heap_setCell _ _ _ _ hp.symm, h]

set_option maxHeartbeats 2000000 in
theorem cutRec_any {w : World} {r : RecM} {D C : Option Addr} {dc cc : Nat} (hn : r.data.length ≤ 1000000000) :
    Calls Try.prog 14 #[.agg #[.int .i64 r.type, .slice D r.data.length dc, .slice C r.cuts.length cc, .int .i64 r.at_]] w fun e w' =>
      ∃ cv, e = .returned (.agg #[.int .i64 r.type, .slice D r.data.length dc, cv, .int .i64 r.at_]) ∧
        w'.ownsRow w.heap.size 3 1 cv ((r.data.length - 1) / 224) ((cutsK ((r.data.length - 1) / 224)).map iv) ∧ Below w.heap.size w w' := by
  obtain ⟨t, data, cuts, at_⟩ := r
  simp only at *
  generalize data.length = dn at *
  generalize cuts.length = cn at *
  go_enter Try.func14, Try.ntmps14
  go_wp2
  go_loopw [3] (fun i wr => ∃ (k : Nat) (cv : Value), i = .int .i64 (224 * ((k : Int) + 1)) ∧ (k = 0 ∨ 224 * k < dn) ∧ CutR w t at_ D dn dc k cv wr) (fun i _ => dn - (intOf i).toNat + 224)
  case atStart =>
    refine ⟨0, .slice none 0 0, rfl, .inl rfl, ?_, ?_, World.ownsRow_nil _ _ _ _, ?_⟩
    · exact (Bk.new w _ _).alloc _
    · simpa using Bk.new (w.alloc _) 27 _
    · exact ((Below.refl _ _).alloc (Nat.le_refl _) _).alloc (by simp) _
  case round =>
    obtain ⟨k, cv, rfl, hk, I⟩ := hrel
    have c0 : wr.cell? ⟨w.heap.size, 0, none⟩ = some (.int .i64 t) := I.box.cell 0
    have c1 : wr.cell? ⟨w.heap.size, 1, none⟩ = some (.slice D dn dc) := I.box.cell 1
    have c2 : wr.cell? ⟨w.heap.size, 2, none⟩ = some cv := I.box.cell 2
    have c3 : wr.cell? ⟨w.heap.size, 3, none⟩ = some (.int .i64 at_) := I.box.cell 3
    have z2 := I.box.frozen 2
    have hsz := I.res.lt
    obtain ⟨Cv, cvc, rfl, -, -, -⟩ := own_form I.own
    by_cases hlt : 224 * (k + 1) < dn
    · have hlt' : 224 * ((k : Int) + 1) < (dn : Int) := by omega
      have kb : ∀ o, Bk (wr.alloc o) w.heap.size 27 #[.int .i64 t, .slice D dn dc, .slice Cv k cvc, .int .i64 at_] := fun o => I.box.alloc o
      have c2' : ∀ o, (wr.alloc o).cell? ⟨w.heap.size, 2, none⟩ = some (.slice Cv k cvc) := fun o => (kb o).cell 2
      go_wp2_with (at_builtin; refine wpList_app intsRow rfl (.tmp 13) (.tmp 15) rfl rfl rfl (I.own.alloc _) (Rd.fresh _ _ 1 1 _ rfl) ?_ ?_ ?_ ?_ ?_)
      · intro u hu; simp at hu; subst hu; rfl
      · unfold maxLen; omega
      · omega
      · simp; omega
      · intro v' w' ho _ hbel
        have b1 : Below (w.heap.size + 2) wr w' := ((Below.refl _ _).alloc (by omega) _).trans hbel
        have k1 := I.box.below b1 (by omega)
        have k2 := I.res.below b1 (by omega)
        have d2 : w'.cell? ⟨w.heap.size, 2, none⟩ = some (.slice Cv k cvc) := k1.cell 2
        have y2 := k1.frozen 2
        have bw := I.bel.trans (b1.mono (by omega))
        obtain ⟨Cv', cvc', rfl, -, -, -⟩ := own_form ho
        clear c0 c1 c2 c3 c2'
        go_wp2
        go_roundw
        case rel =>
          refine ⟨k + 1, .slice Cv' (k + 1) cvc', by go_num, .inr (by omega), ?_, k2.other (by show w.heap.size ≠ w.heap.size + 1; omega) _, ?_, bw.setCell (p := ⟨w.heap.size, 2, none⟩) (Nat.le_refl _) _⟩
          · have := k1.set_ 2 (.slice Cv' (k + 1) cvc')
            simpa using this
          · rw [cutsK_succ, List.map_append]
            exact ownsRow_setCell_below ho (a := ⟨w.heap.size, 2, none⟩) (by show w.heap.size < _; omega) _
        case measure => simp [intOf]; omega
    · have hlt' : ¬ 224 * ((k : Int) + 1) < (dn : Int) := by omega
      have hkk : (dn - 1) / 224 = k := by omega
      have HK := Lib.hid hkk
      clear hkk
      have r0 : wr.cell? ⟨w.heap.size + 1, 0, none⟩ = some (.int .i64 0) := I.res.cell 0
      have r1 : wr.cell? ⟨w.heap.size + 1, 1, none⟩ = some (.slice none 0 0) := I.res.cell 1
      have r2 : wr.cell? ⟨w.heap.size + 1, 2, none⟩ = some (.slice none 0 0) := I.res.cell 2
      have r3 : wr.cell? ⟨w.heap.size + 1, 3, none⟩ = some (.int .i64 0) := I.res.cell 3
      have y0 := I.res.frozen 0
      have y1 := I.res.frozen 1
      have y2 := I.res.frozen 2
      have y3 := I.res.frozen 3
      go_wp2
      have kr := (((I.res.set_ 0 (.int .i64 t)).set_ 1 (.slice D dn dc)).set_ 2 (.slice Cv k cvc)).set_ 3 (.int .i64 at_)
      have ho' := ownsRow_setCell_below (ownsRow_setCell_below (ownsRow_setCell_below (ownsRow_setCell_below I.own (a := ⟨w.heap.size + 1, 0, none⟩) (by show _ + 1 < _ + 2; omega) (.int .i64 t)) (a := ⟨w.heap.size + 1, 1, none⟩) (by show _ + 1 < _ + 2; omega) (.slice D dn dc)) (a := ⟨w.heap.size + 1, 2, none⟩) (by show _ + 1 < _ + 2; omega) (.slice Cv k cvc)) (a := ⟨w.heap.size + 1, 3, none⟩) (by show _ + 1 < _ + 2; omega) (.int .i64 at_)
      have bl := (((I.bel.setCell (p := ⟨w.heap.size + 1, 0, none⟩) (by show _ ≤ _ + 1; omega) (.int .i64 t)).setCell (p := ⟨w.heap.size + 1, 1, none⟩) (by show _ ≤ _ + 1; omega) (.slice D dn dc)).setCell (p := ⟨w.heap.size + 1, 2, none⟩) (by show _ ≤ _ + 1; omega) (.slice Cv k cvc)).setCell (p := ⟨w.heap.size + 1, 3, none⟩) (by show _ ≤ _ + 1; omega) (.int .i64 at_)
      refine bodyPost_ret (v := .agg #[.int .i64 t, .slice D dn dc, .slice Cv k cvc, .int .i64 at_]) ?_ rfl ⟨_, rfl, ?_, bl⟩
      · simp [results, Try.results14, go_sem, r0, r1, r2, r3]
      · rw [HK.out]
        exact own_mono ho' (by omega)
end Go.Proofs.Ytpjimppfgmemeaa
