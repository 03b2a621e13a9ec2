/- An area's cells as a list, row by row. No condition; words for rows of the call's own. -/
import Derived.Test.YtgjijjdpkmdcgaaDoorBBo
namespace Go.Proofs.YtgjijjdpkmdcgaaDoor
open Go.RowKit

def ivI (x : Int) : Value := .int .i64 x
/-- The first n cells, row by row, w to a row. -/
def clL (r0 c0 : Int) (w n : Nat) : List Value := (List.range n).flatMap fun i => [.int .i64 (r0 + (i / w : Nat)), .int .i64 (c0 + (i % w : Nat))]
theorem clL_zero (r0 c0 : Int) (w : Nat) : clL r0 c0 w 0 = [] := rfl
theorem clL_succ (r0 c0 : Int) (w k j : Nat) (hj : j < w) : clL r0 c0 w (k * w + j) ++ [.int .i64 (r0 + k), .int .i64 (c0 + j)] = clL r0 c0 w (k * w + j + 1) := by
  have e1 : (k * w + j) / w = k := by rw [Nat.mul_comm, Nat.mul_add_div (by omega), Nat.div_eq_of_lt hj]; rfl
  have e2 : (k * w + j) % w = j := by rw [Nat.mul_comm, Nat.mul_add_mod, Nat.mod_eq_of_lt hj]
  unfold clL
  rw [List.range_succ, List.flatMap_append]
  simp only [List.flatMap_cons, List.flatMap_nil, List.append_nil, e1, e2]
theorem clL_len (r0 c0 : Int) (w n : Nat) : (clL r0 c0 w n).length = n * 2 := by
  unfold clL
  induction n with
  | zero => rfl
  | succ n ih => rw [List.range_succ, List.flatMap_append, List.length_append, ih]; simp; omega
theorem clL_get (r0 c0 : Int) (w n i : Nat) (hi : i < n) : (clL r0 c0 w n)[i * 2]? = some (.int .i64 (r0 + (i / w : Nat))) ∧ (clL r0 c0 w n)[i * 2 + 1]? = some (.int .i64 (c0 + (i % w : Nat))) := by
  induction n with
  | zero => omega
  | succ n ih =>
    have hl := clL_len r0 c0 w n
    have e : clL r0 c0 w (n + 1) = clL r0 c0 w n ++ [.int .i64 (r0 + (n / w : Nat)), .int .i64 (c0 + (n % w : Nat))] := by
      unfold clL
      rw [List.range_succ, List.flatMap_append]
      simp
    rw [e]
    by_cases h : i < n
    · rw [List.getElem?_append_left (by omega), List.getElem?_append_left (by omega)]
      exact ih h
    · obtain rfl : i = n := by omega
      rw [List.getElem?_append_right (by omega), List.getElem?_append_right (by omega), hl, Nat.sub_self, show i * 2 + 1 - i * 2 = 1 by omega]
      exact ⟨rfl, rfl⟩
def wdN (q q2 : Int) : Nat := (q2 - q + 1).toNat
/-- How many cells are told. -/
def ccN (p q p2 q2 : Int) : Nat := if 4096 < szI p q p2 q2 then 0 else (szI p q p2 q2).toNat
theorem cc_nat {p q p2 q2 : Int} {h w : Nat} (hh : p2 - p + 1 = (h : Int)) (hw : q2 - q + 1 = (w : Int)) : szI p q p2 q2 = ((h * w : Nat) : Int) := by
  unfold szI; rw [hh, hw]; simp
theorem own_mono {w : World} {base base' k n : Nat} {e : TypeId} {v : Value} {xs : List Value} (h : w.ownsRow base e k v n xs) (hb : base' ≤ base) : w.ownsRow base' e k v n xs :=
  ⟨h.1, h.2.imp id fun ⟨g, cap, cur, e, hg, r⟩ => ⟨g, cap, cur, e, Nat.le_trans hb hg, r⟩⟩
/-- The row that is handed back. -/
def CellsAt (T : TypeId) (base : Nat) (r0 c0 : Int) (w n : Nat) (e : Ending) (W : World) : Prop := ∃ v, e = .returned v ∧ W.ownsRow base T 2 v n (clL r0 c0 w n)
theorem sb_two {w W W' : World} {n B g g' : Nat} {T T' : TypeId} {cs cs' : Array Value} {bs : List (Nat × TypeId × Array Value)} (h : SB w n ((g, T, cs) :: (g', T', cs') :: bs) W) (hb : Below B W W') (hB : w.heap.size ≤ B) (hg : g < B) (hg' : g' < B) : SB w n [(g, T, cs), (g', T', cs')] W' :=
  ⟨h.bel.trans (hb.mono hB), Nat.le_trans h.size hb.size, fun x hx => by
    rcases List.mem_cons.1 hx with rfl | hx
    · exact (h.bk _ (.head _)).below hb hg
    · rcases List.mem_cons.1 hx with rfl | hx
      · exact (h.bk _ (.tail _ (.head _))).below hb hg'
      · cases hx⟩
theorem cellsRow : ElemRow Tryd.prog 52 25 (.agg #[.int .i64 0, .int .i64 0]) 2 16 := by
  obtain ⟨i, hi, h0, h1, h2⟩ := info_parts (P := Tryd.prog) (e := 25) (z := .agg #[.int .i64 0, .int .i64 0]) (size := 2) (bytes := 16) (by kernel_rfl)
  exact ⟨Tryd.underlying52, ⟨i, hi, h0, h1, h2⟩, rfl, by omega⟩
theorem make_cells (n : Nat) (hn : n ≤ 4096) : ∃ Z : Array Value, (∀ w : World, (Instr.makeSlice 52 (.int .i64 0) (.int .i64 (n : Int))).run Tryd.prog w = .ok (.slice (some ⟨w.heap.size, 0, none⟩) 0 n) (w.alloc (.cells Z 25))) ∧
    ∀ (w : World) (base : Nat), base ≤ w.heap.size → (w.alloc (.cells Z 25)).ownsRow base 25 2 (.slice (some ⟨w.heap.size, 0, none⟩) 0 n) 0 [] := by
  obtain ⟨i, hi, hz, hs, hb⟩ := cellsRow.info
  have hr := fun w : World => run_make (P := Tryd.prog) w 52 25 i _ cellsRow.under hi hz .i64 .i64 0 (n : Int) (Int.le_refl _) (by omega) (by rw [hb]; omega) (by omega)
  simp only [Int.toNat_zero, Int.toNat_natCast] at hr
  refine ⟨_, hr, fun w base hbase => ?_⟩
  obtain ⟨w', h1, h2, -⟩ := run_make_own (P := Tryd.prog) w base 52 25 i _ 2 cellsRow.under hi hz hs .i64 .i64 n (by rw [hb]; omega) (by unfold maxLen; omega) hbase
  rw [hr w] at h1
  injection h1 with _ h1
  rw [h1]
  exact h2
theorem bCellsRow : ElemRow Tryd.prog 54 34 (.agg #[.int .i64 0, .int .i64 0]) 2 16 := by
  obtain ⟨i, hi, h0, h1, h2⟩ := info_parts (P := Tryd.prog) (e := 34) (z := .agg #[.int .i64 0, .int .i64 0]) (size := 2) (bytes := 16) (by kernel_rfl)
  exact ⟨Tryd.underlying54, ⟨i, hi, h0, h1, h2⟩, rfl, by omega⟩
end Go.Proofs.YtgjijjdpkmdcgaaDoor
