/- Numbers in digits, whole ones with their signs; the reference's up by its contract. Condition: no more than a thousand digits. -/
import Derived.Test.YtmbjmgmnicacpaaGreatDoorRow5
import Derived.Test.YtmbjmgmnicacpaaGreatDoorWide
namespace Go.Proofs.YtmbjmgmnicacpaaGreatDoor
open Go.RowKit

/-- A whole number in digits, as the reference keeps it. -/
def BigN (w : World) (v : Value) (V : Int) : Prop := BigV w v (decide (V < 0)) (digs V.natAbs)
theorem BigN.below {w w' : World} {v : Value} {V : Int} (h : BigN w v V) (hb : Below w.heap.size w w') : BigN w' v V := BigV.below h hb
theorem digs_nil {n : Nat} : digs n = [] ↔ n = 0 := by
  constructor
  · intro h
    have := dval_digs n
    rw [h] at this
    exact this.symm
  · rintro rfl; exact digs_zero
/-- Trimmed digits with a sign are a whole number. -/
theorem bigN_of {w : World} {v : Value} {b : Bool} {L : List Nat} {N : Nat} (hd : Digs L) (hv : dval L = N) (h : BigV w v (b && !(neat L).isEmpty) (neat L)) : BigN w v (sgn b N) := by
  rw [neat_eq hd, hv] at h
  unfold BigN
  rw [sgn_abs]
  have e : decide (sgn b N < 0) = (b && !(digs N).isEmpty) := by
    rcases Nat.eq_zero_or_pos N with rfl | hN
    · rw [digs_zero]; cases b <;> simp [sgn]
    · rw [sgn_neg hN]
      have : (digs N).isEmpty = false := by
        rw [List.isEmpty_eq_false_iff]
        intro e
        have := digs_nil.1 e
        omega
      rw [this]; simp
  rw [e]
  exact h
theorem bigN_big {w : World} {m : Int} (h0 : -9223372036854775808 ≤ m) (h1 : m ≤ 9223372036854775807) :
    Calls Tryz.prog 60 #[.int .i64 m] w fun e w' => ∃ y, e = .returned y ∧ BigN w' y m ∧ Below w.heap.size w w' :=
  (big_any h0 h1).mono fun _e _w' ⟨A, n, c, h1, h2, h3, h4, h5⟩ => ⟨_, h1, ⟨A, n, c, rfl, h2, h3, h4⟩, h5⟩

theorem up_val (V : Int) (k : Nat) (h : V ≠ 0) : decide (V * 10 ^ k < 0) = decide (V < 0) ∧ digs (V * 10 ^ k).natAbs = List.replicate k 0 ++ digs V.natAbs := by
  have hp : (0 : Int) < 10 ^ k := Int.pow_pos (by omega)
  refine ⟨?_, ?_⟩
  · rw [decide_eq_decide]
    constructor
    · intro h1
      rcases Int.lt_or_le V 0 with h2 | h2
      · exact h2
      · have := Int.mul_nonneg h2 (Int.le_of_lt hp); omega
    · intro h1
      exact Int.mul_neg_of_neg_of_pos h1 hp
  · rw [Int.natAbs_mul, Int.natAbs_pow]
    exact digs_up _ _ (by omega)

set_option maxHeartbeats 1000000 in
theorem up_any {w : World} {x : Value} {V : Int} {k : Nat} (hx : BigN w x V) (hl : (digs V.natAbs).length ≤ 500) (hk : k ≤ 100) :
    Calls Tryz.prog 90 #[x, .int .i64 (k : Nat)] w fun e w' => ∃ y, e = .returned y ∧ BigN w' y (V * 10 ^ k) ∧ Below w.heap.size w w' := by
  by_cases h0 : V = 0
  · subst h0
    obtain ⟨A, n, c, rfl, hnc, hcm, h⟩ := hx
    have hn : n = 0 := by have := h.dlen; rw [show (0 : Int).natAbs = 0 from rfl, digs_zero] at this; exact this
    subst hn
    go_enter Tryz.func90, Tryz.ntmps90
    go_wp2
    have hb := bel1 w (.cells #[.bool (decide ((0 : Int) < 0)), .slice A 0 c] 98) (.cells #[.bool (decide ((0 : Int) < 0)), .slice A 0 c] 98)
    refine bodyPost_ret (v := .agg #[.bool (decide ((0 : Int) < 0)), .slice A 0 c]) (by simp [results, Tryz.results90, go_sem]) rfl ⟨_, rfl, ?_, hb⟩
    rw [Int.zero_mul]
    exact ⟨A, 0, c, rfl, hnc, hcm, (h.below hb).mono hb.size⟩
  · obtain ⟨u1, u2⟩ := up_val V k h0
    have HU := Lib.hid (And.intro u1 u2)
    have hne : digs V.natAbs ≠ [] := fun e => by have := digs_nil.1 e; omega
    unfold BigN at hx ⊢
    clear u1 u2
    generalize decide (V < 0) = b at *
    generalize digs V.natAbs = l at *
    obtain ⟨A, n, c, rfl, hnc, hcm, h⟩ := hx
    have HL := Lib.hid h.dlen
    have hn0 : 0 < n := by
      have h1 := h.dlen
      have : l.length ≠ 0 := fun e => hne (List.eq_nil_of_length_eq_zero e)
      omega
    have hn5 : n ≤ 500 := by have := h.dlen; omega
    have hn0' : ((n : Int) == 0) = false := by simp; omega
    clear hne hl
    go_enter Tryz.func90, Tryz.ntmps90
    go_wp2
    have k0 := ((Bk.new w 98 #[.bool b, .slice A n c]).alloc (.cells #[.bool false, .slice none 0 0] 98)).alloc (.cells #[.bool b, .slice none 0 0] 98)
    have k1 := (Bk.new (w.alloc (.cells #[.bool b, .slice A n c] 98)) 98 #[.bool false, .slice none 0 0]).alloc (.cells #[.bool b, .slice none 0 0] 98)
    have k2 := Bk.new ((w.alloc (.cells #[.bool b, .slice A n c] 98)).alloc (.cells #[.bool false, .slice none 0 0] 98)) 98 #[.bool b, .slice none 0 0]
    simp only [World.size_alloc] at k1 k2
    have hb0 := bel2 w (.cells #[.bool b, .slice A n c] 98) (.cells #[.bool false, .slice none 0 0] 98) (.cells #[.bool b, .slice none 0 0] 98)
    go_loopw [6] (fun ii wr => ∃ (i : Nat) (v : Value), ii = .int .i64 i ∧ i ≤ k ∧ wr.ownsRow w.heap.size 3 1 v i (dcs (List.replicate i 0)) ∧ Bk wr w.heap.size 98 #[.bool b, .slice A n c] ∧ Bk wr (w.heap.size + 1) 98 #[.bool false, .slice none 0 0] ∧ Bk wr (w.heap.size + 1 + 1) 98 #[.bool b, v] ∧ Below w.heap.size w wr) (fun ii _ => k - (intOf ii).toNat)
    case atStart => exact ⟨0, _, rfl, Nat.zero_le _, World.ownsRow_nil _ _ _ _, k0, k1, k2, hb0⟩
    case round =>
      clear k0 k1 k2 hb0
      obtain ⟨i, v, rfl, hi, ho, k0, k1, k2, hbel⟩ := hrel
      have hsz := hbel.size
      have hlt := k2.lt
      have c20 := k2.cell 0
      have c21 := k2.cell 1
      by_cases hik : i < k
      · go_wp2_with (at_builtin; refine wpList_app rowInts rfl (.tmp 21) (.tmp 22) rfl rfl rfl (ho.alloc _) (Rd.fresh _ _ 1 1 _ rfl) ?_ ?_ ?_ ?_ ?_)
        · intro u hu; simp at hu; subst hu; rfl
        · unfold maxLen; omega
        · omega
        · simp; omega
        intro v2 w2 o2 g2 b2
        have b2' := hbel.trans (((Below.refl w.heap.size wr).alloc hsz _).trans b2)
        have k02 := g2.bk (ho.alloc _) (k0.alloc _) (by decide)
        have k12 := g2.bk (ho.alloc _) (k1.alloc _) (by decide)
        have k22 := g2.bk (ho.alloc _) (k2.alloc _) (by decide)
        have o3 : w2.ownsRow w.heap.size 3 1 v2 (i + 1) (dcs (List.replicate (i + 1) 0)) := by
          rw [List.replicate_succ', dcs_append]
          exact o2
        obtain ⟨A2, c2, rfl, -, -, -⟩ := own_form o3
        have d0 := k22.cell 0
        have d1 := k22.cell 1
        have z1 := k22.frozen 1
        clear o2 b2 ho g2 c20 c21
        go_wp2
        go_roundw
        case rel =>
          refine ⟨i + 1, _, by go_num, by omega, own_set o3 k22 (by decide), k02.other (by omega), k12.other (by omega), ?_, b2'.setCell (by simp; omega) _⟩
          simpa using k22.set_ 1 (.slice A2 (i + 1) c2)
        case measure => simp [intOf]; omega
      · obtain rfl : i = k := by omega
        have hr := h.belowMono hbel (Nat.le_refl _)
        have c00 := k0.cell 0
        have c01 := k0.cell 1
        go_wp2_with (at_builtin; refine wpList_app rowInts rfl (.tmp 26) (.tmp 28) rfl rfl rfl ho hr (dcs_one _) ?_ ?_ ?_ ?_)
        · unfold maxLen; omega
        · omega
        · omega
        intro v2 w2 o2 g2 b2
        have b2' := hbel.trans b2
        have k12 := g2.bk ho k1 (by decide)
        have k22 := g2.bk ho k2 (by decide)
        rw [← dcs_append] at o2
        obtain ⟨A2, c2, rfl, hnc2, hcm2, -⟩ := own_form o2
        have d0 := k22.cell 0
        have d1 := k22.cell 1
        have z1 := k22.frozen 1
        have r0 := k12.cell 0
        have r1 := k12.cell 1
        have y0 := k12.frozen 0
        have y1 := k12.frozen 1
        clear b2 ho g2 c20 c21 c00 c01
        go_wp2
        refine bodyPost_ret (v := .agg #[.bool b, .slice A2 (i + n) c2]) (by simp [results, Tryz.results90, go_sem, r0, r1]) rfl ⟨_, rfl, ?_, ((b2'.setCell (by simp; omega) _).setCell (by simp) _).setCell (by simp) _⟩
        rw [HU.out.1, HU.out.2]
        have q2 := own_set (i := 1) (u := .slice A2 (i + n) c2) o2 k22 (by decide)
        have e1 := k12.other (g' := w.heap.size + 1 + 1) (i := 1) (u := .slice A2 (i + n) c2) (by omega)
        exact ⟨A2, i + n, c2, rfl, hnc2, hcm2, own_rd (own_set (own_set q2 e1 (by decide)) (e1.set_ 0 _) (by decide))⟩
end Go.Proofs.YtmbjmgmnicacpaaGreatDoor
