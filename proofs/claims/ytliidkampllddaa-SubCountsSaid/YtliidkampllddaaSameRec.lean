/- cashbooklaw1.Of, cashbookref7.SameRec (of records alike) by their contracts. Conditions: the slices read as lists. -/
import Derived.Test.YtliidkampllddaaToAll
namespace Go.Proofs.Ytliidkampllddaa
open Go.RowKit

theorem below_drewN {B : Nat} {w w' : World} (h : Below B w w') (d : Nat) : Below B w (w'.drewN d) := ⟨h.os, h.tape, h.output, h.size, h.block⟩

theorem of_any {w : World} {t at_ : Int} {D C : Option Addr} {dn dc cn cc : Nat} :
    Calls Try.prog 25 #[.agg #[.int .i64 t, .slice D dn dc, .slice C cn cc, .int .i64 at_]] w fun e w' => e = .returned (.agg #[.int .i64 t, .slice D dn dc, .slice C cn cc, .int .i64 at_]) ∧ Below w.heap.size w w' := by
  go_enter Try.func25, Try.ntmps25
  go_wp2
  refine bodyPost_ret (v := .agg #[.int .i64 t, .slice D dn dc, .slice C cn cc, .int .i64 at_]) ?_ rfl ⟨rfl, ?_⟩
  · simp [results, Try.results25, go_sem]
  · exact ((Below.refl _ _).alloc (Nat.le_refl _) _).alloc (by simp) _

theorem sameRec_any {w : World} {B : Nat} {r s : RecM} {D C D' C' : Option Addr} {dc cc dc' cc' : Nat} (h : RecRd w B r D dc C cc) (h' : RecRd w B s D' dc' C' cc') (hB : B ≤ w.heap.size)
    (ht : r.type = s.type) (hd : r.data = s.data) (hc : r.cuts = s.cuts) :
    Calls Try.prog 24 #[.agg #[.int .i64 r.type, .slice D r.data.length dc, .slice C r.cuts.length cc, .int .i64 r.at_],
        .agg #[.int .i64 s.type, .slice D' s.data.length dc', .slice C' s.cuts.length cc', .int .i64 s.at_]] w fun e w' => e = .returned (.bool true) ∧ Below w.heap.size w w' := by
  obtain ⟨t, data, cuts, at_⟩ := r
  obtain ⟨t', data', cuts', at'⟩ := s
  simp only at *
  subst ht hd hc
  have hbel : ∀ o o', Below w.heap.size w ((w.alloc o).alloc o') := fun o o' => ((Below.refl _ _).alloc (Nat.le_refl _) o).alloc (by simp) o'
  have l1 := h.ccap
  have l2 := h'.ccap
  have e1 := fun o o' => run_str (c := dc) (h.data.belowMono (hbel o o') hB)
  have e2 := fun o o' => run_str (c := dc') (h'.data.belowMono (hbel o o') hB)
  have q3 := fun o o' => h.cuts.belowMono (hbel o o') hB
  have q4 := fun o o' => h'.cuts.belowMono (hbel o o') hB
  clear h h'
  simp only at *
  generalize data.length = dn at *
  generalize cuts.length = cn at *
  have s1 := e1 (.cells #[.int .i64 t, .slice D dn dc, .slice C cn cc, .int .i64 at_] 52) (.cells #[.int .i64 t, .slice D' dn dc', .slice C' cn cc', .int .i64 at'] 52)
  have s2 := e2 (.cells #[.int .i64 t, .slice D dn dc, .slice C cn cc, .int .i64 at_] 52) (.cells #[.int .i64 t, .slice D' dn dc', .slice C' cn cc', .int .i64 at'] 52)
  have s3 := q3 (.cells #[.int .i64 t, .slice D dn dc, .slice C cn cc, .int .i64 at_] 52) (.cells #[.int .i64 t, .slice D' dn dc', .slice C' cn cc', .int .i64 at'] 52)
  have s4 := q4 (.cells #[.int .i64 t, .slice D dn dc, .slice C cn cc, .int .i64 at_] 52) (.cells #[.int .i64 t, .slice D' dn dc', .slice C' cn cc', .int .i64 at'] 52)
  have hbl := hbel (.cells #[.int .i64 t, .slice D dn dc, .slice C cn cc, .int .i64 at_] 52) (.cells #[.int .i64 t, .slice D' dn dc', .slice C' cn cc', .int .i64 at'] 52)
  clear e1 e2 q3 q4 hbel
  go_enter Try.func24, Try.ntmps24
  go_wp2
  have ka : Bk ((w.alloc (.cells #[.int .i64 t, .slice D dn dc, .slice C cn cc, .int .i64 at_] 52)).alloc (.cells #[.int .i64 t, .slice D' dn dc', .slice C' cn cc', .int .i64 at'] 52)) w.heap.size 52 #[.int .i64 t, .slice D dn dc, .slice C cn cc, .int .i64 at_] := (Bk.new w _ _).alloc _
  have kb : Bk ((w.alloc (.cells #[.int .i64 t, .slice D dn dc, .slice C cn cc, .int .i64 at_] 52)).alloc (.cells #[.int .i64 t, .slice D' dn dc', .slice C' cn cc', .int .i64 at'] 52)) (w.heap.size + 1) 52 #[.int .i64 t, .slice D' dn dc', .slice C' cn cc', .int .i64 at'] := by simpa using Bk.new (w.alloc _) 52 _
  clear s1 s2
  generalize (w.alloc (.cells #[.int .i64 t, .slice D dn dc, .slice C cn cc, .int .i64 at_] 52)).alloc (.cells #[.int .i64 t, .slice D' dn dc', .slice C' cn cc', .int .i64 at'] 52) = W at *
  have a2 : W.cell? ⟨w.heap.size, 2, none⟩ = some (.slice C cn cc) := ka.cell 2
  have b2 : W.cell? ⟨w.heap.size + 1, 2, none⟩ = some (.slice C' cn cc') := kb.cell 2
  clear ka kb
  go_loopw [5] (fun i wr => ∃ k d : Nat, k ≤ cn ∧ i = .int .i64 k ∧ wr = W.drewN d) (fun i _ => cn - (intOf i).toNat)
  case atStart => exact ⟨0, 0, Nat.zero_le _, rfl, rfl⟩
  case round =>
    obtain ⟨k, d, hk, rfl, rfl⟩ := hrel
    by_cases hkn : k < cn
    · obtain ⟨a, x, rfl, _, hc, hx, _⟩ := s3.intAt hkn
      obtain ⟨a', y, rfl, _, hc', hy, _⟩ := s4.intAt hkn
      have hkn' : (k : Int) < (cn : Int) := by omega
      have hxy : x = y := by rw [hx] at hy; injection hy
      subst hxy
      clear hx hy s3 s4
      go_wp2
      go_quiet (fail)
      go_wp2
      go_roundw
      case rel => exact ⟨k + 1, _, by omega, by go_num, rfl⟩
      case measure => simp [intOf]; omega
    · have hkk : k = cn := by omega
      subst hkk
      clear s3 s4
      go_wp2
      go_ret
      exact ⟨rfl, below_drewN hbl d⟩
end Go.Proofs.Ytliidkampllddaa
