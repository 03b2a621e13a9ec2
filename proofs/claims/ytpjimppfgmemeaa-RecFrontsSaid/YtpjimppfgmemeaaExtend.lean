/- rec.extend, checkContinue by their contracts. Conditions: the record at the pointer is the call's own. -/
import Derived.Test.YtpjimppfgmemeaaFirst
namespace Go.Proofs.Ytpjimppfgmemeaa
open Go.RowKit

set_option maxHeartbeats 1000000 in
theorem extend_any {w : World} {base g off m c : Nat} {cs : Array Value} {D C A : Option Addr} {dn dc cn cc : Nat} {data news : List UInt8} {cuts : List Int} {B : Nat}
    (hk : Bk w g 30 cs) (h1 : cs[off + 1]? = some (.slice D dn dc)) (h2 : cs[off + 2]? = some (.slice C cn cc)) (hb : base ≤ w.heap.size) (hbg : base ≤ g)
    (od : w.ownsRow base 5 1 (.slice D dn dc) dn (data.map bv)) (oc : w.ownsRow base 3 1 (.slice C cn cc) cn (cuts.map iv))
    (hl : Rd w B 1 A m (news.map bv)) (hB : B ≤ base) (hdn : dn ≤ 1000000) (hcn : cn ≤ 1000000) (hm : m ≤ 1000000) :
    Calls Try.prog 32 #[.pointer (some ⟨g, off, none⟩), .slice A m c] w fun e w' => ∃ dv cv, e = .returned (.tuple #[]) ∧
      w'.ownsRow base 5 1 dv (dn + m) ((data ++ news).map bv) ∧ w'.ownsRow base 3 1 cv (cn + 1) ((cuts ++ [(dn : Int)]).map iv) ∧ Bk w' g 30 ((cs.setIfInBounds (off + 2) cv).setIfInBounds (off + 1) dv) ∧
      Keep (fun i => i = g ∨ (Value.slice D dn dc).ownBlock = some i ∨ (Value.slice C cn cc).ownBlock = some i) w w' ∧
      (dv.ownBlock = (Value.slice D dn dc).ownBlock ∨ ∃ i, dv.ownBlock = some i ∧ w.heap.size ≤ i) ∧ (cv.ownBlock = (Value.slice C cn cc).ownBlock ∨ ∃ i, cv.ownBlock = some i ∧ w.heap.size ≤ i) := by
  have c1 : w.cell? ⟨g, off + 1, none⟩ = some (.slice D dn dc) := (hk.cell _).trans h1
  have c2 : w.cell? ⟨g, off + 2, none⟩ = some (.slice C cn cc) := (hk.cell _).trans h2
  have z1 := hk.frozen (off + 1)
  have z2 := hk.frozen (off + 2)
  have oc' : ((w.alloc (.cells #[.int .i64 (dn : Int)] 3)).drew).ownsRow base 3 1 (.slice C cn cc) cn (cuts.map iv) := oc.alloc _
  have od' : ((w.alloc (.cells #[.int .i64 (dn : Int)] 3)).drew).ownsRow base 5 1 (.slice D dn dc) dn (data.map bv) := od.alloc _
  have rd' : Rd ((w.alloc (.cells #[.int .i64 (dn : Int)] 3)).drew) (w.heap.size + 1) 1 (some ⟨w.heap.size, 0, none⟩) 1 [.int .i64 (dn : Int)] := Rd.drewN (Rd.fresh w 3 1 1 [.int .i64 (dn : Int)] rfl) 1
  have one' : ∀ u ∈ [Value.int .i64 (dn : Int)], u.oneCell' = true := iv_one [(dn : Int)]
  have k' : Bk ((w.alloc (.cells #[.int .i64 (dn : Int)] 3)).drew) g 30 cs := hk.alloc _
  have sz' : base ≤ ((w.alloc (.cells #[.int .i64 (dn : Int)] 3)).drew).heap.size := by simp; omega
  have e1 : cn + 1 ≤ maxLen := by unfold maxLen; omega
  have e2 : (cn + 1) * 8 ≤ 140737488355328 := by omega
  have c2' : (w.alloc (.cells #[.int .i64 (dn : Int)] 3)).cell? ⟨g, off + 2, none⟩ = some (.slice C cn cc) := (k'.cell (off + 2)).trans h2
  have c1' : (w.alloc (.cells #[.int .i64 (dn : Int)] 3)).cell? ⟨g, off + 1, none⟩ = some (.slice D dn dc) := (k'.cell (off + 1)).trans h1
  go_enter Try.func32, Try.ntmps32
  go_upto_region 0 with fail
  go_cut [] (fun wx => ∃ Cv cvc, wx.ownsRow base 3 1 (.slice Cv (cn + 1) cvc) (cn + 1) ((cuts ++ [(dn : Int)]).map iv) ∧ Bk wx g 30 (cs.setIfInBounds (off + 2) (.slice Cv (cn + 1) cvc)) ∧
    Keep (fun i => i = g ∨ (Value.slice C cn cc).ownBlock = some i) w wx ∧ ((Value.slice Cv (cn + 1) cvc).ownBlock = (Value.slice C cn cc).ownBlock ∨ ∃ i, (Value.slice Cv (cn + 1) cvc).ownBlock = some i ∧ w.heap.size ≤ i))
  case first =>
   go_region_law (
    (refine step_app intsRow rfl (.tmp 8) (.tmp 14) rfl rfl rfl oc' rd' one' e1 e2 sz' ?_
     intro cv w1 o1 g1 b1
     obtain ⟨Cv, cvc, rfl, _, _, _⟩ := own_form o1
     have k1 := g1.bk oc' k' (by decide)
     have f1 : w1.cell? ⟨g, off + 1, none⟩ = some (.slice D dn dc) := (k1.cell _).trans h1
     have f2 : w1.cell? ⟨g, off + 2, none⟩ = some (.slice C cn cc) := (k1.cell _).trans h2
     have y1 := k1.frozen (off + 1)
     have y2 := k1.frozen (off + 2)))
   all_goals (go_wp2_with fail; go_meet)
   all_goals
     have K1 : Keep (fun i => i = g) w1 (w1.setCell ⟨g, off + 2, none⟩ (.slice Cv (cn + 1) cvc)) := Keep.setCell (S := fun i => i = g) (Keep.refl _ _) (p := ⟨g, off + 2, none⟩) (fun _ => rfl) _
     refine ⟨Cv, cvc, ?_, k1.set_ _ _, ?_, ?_⟩
     · rw [List.map_append]
       exact K1.own o1 fun i hi e => own_ne o1 k1 (by decide) (by rw [hi, e])
     · exact (((Keep.refl _ w).alloc _).drew.trans (Keep.of_grew g1 (S := fun i => some i = (Value.slice C cn cc).ownBlock) fun _ h => h) fun i _ h => .inr h.symm).trans K1 fun i _ h => .inl h
     · rcases g1.lies with h | ⟨i, h, hi⟩
       · exact .inl h
       · exact .inr ⟨i, h, by simp at hi; omega⟩
  case rest =>
    obtain ⟨Cv, cvc, o1, k1, K1, L1⟩ := hcut
    have s1 := K1.size
    have neD := own_ne od hk (by decide)
    have neC := own_ne oc hk (by decide)
    have neDC := own_own_ne od oc (by decide)
    have od1 := K1.own od fun i hi e => by
      rcases e with rfl | e
      · exact neD hi
      · exact neDC i hi e
    have b1 : Below base w wc := K1.below hb fun i hi e => by
      rcases e with rfl | e
      · omega
      · have := (oc.lt i e).1; omega
    have c3 : wc.cell? ⟨g, off + 1, none⟩ = some (.slice D dn dc) := by
      refine (k1.cell _).trans ?_
      rw [Array.getElem?_setIfInBounds_ne (by omega)]
      exact h1
    have y3 := k1.frozen (off + 1)
    go_wp2_with (at_builtin; refine wpList_app bytesRow rfl (.tmp 22) (.tmp 23) rfl rfl rfl od1 (hl.belowMono b1 hB) (bv_one _) ?_ ?_ ?_ ?_)
    · unfold maxLen; omega
    · omega
    · omega
    · intro dv w2 o2 g2 _
      obtain ⟨Dv, dvc, rfl, _, _, _⟩ := own_form o2
      have k2 := g2.bk od1 k1 (by decide)
      have c4 : w2.cell? ⟨g, off + 1, none⟩ = some (.slice D dn dc) := by
        refine (k2.cell _).trans ?_
        rw [Array.getElem?_setIfInBounds_ne (by omega)]
        exact h1
      have y4 := k2.frozen (off + 1)
      clear c3 y3 c1 c2 z1 z2 c1' c2'
      go_wp2
      go_end0
      have K3 : Keep (fun i => i = g) w2 (w2.setCell ⟨g, off + 1, none⟩ (.slice Dv (dn + m) dvc)) := Keep.setCell (S := fun i => i = g) (Keep.refl _ _) (p := ⟨g, off + 1, none⟩) (fun _ => rfl) _
      have K2 := Keep.of_grew g2 (S := fun i => some i = (Value.slice D dn dc).ownBlock) fun _ h => h
      have neC1 := own_ne o1 k1 (by decide)
      have neCD1 := own_own_ne o1 od1 (by decide)
      have o1' := K3.own (K2.own o1 fun i hi e => neCD1 i hi e.symm) fun i hi e => neC1 (by rw [hi, e])
      refine ⟨.slice Dv (dn + m) dvc, .slice Cv (cn + 1) cvc, rfl, ?_, o1', k2.set_ _ _, ?_, ?_, L1⟩
      · rw [List.map_append]
        exact K3.own o2 fun i hi e => own_ne o2 k2 (by decide) (by rw [hi, e])
      · refine ((K1.mono (T := fun i => i = g ∨ (Value.slice D dn dc).ownBlock = some i ∨ (Value.slice C cn cc).ownBlock = some i) fun i _ h => h.imp id .inr).trans K2 fun i _ h => .inr (.inl h.symm)).trans K3 fun i _ h => .inl h
      · rcases g2.lies with h | ⟨i, h, hi⟩
        · exact .inl h
        · exact .inr ⟨i, h, by omega⟩

/-- Whether a Continue of m bytes may stand behind L. -/
def contM (L : List RecM) (m : Nat) : Int :=
  match L.getLast? with
  | none => 6
  | some r => if m = 0 ∨ r.data.length = 0 then 2 else if 65536 < r.data.length + m then 4 else 0

theorem contM_some {L : List RecM} {r : RecM} (h : L.getLast? = some r) (m : Nat) : contM L m = if m = 0 ∨ r.data.length = 0 then 2 else if 65536 < r.data.length + m then 4 else 0 := by
  unfold contM
  rw [h]

theorem checkContinue_any {w : World} {n c m dc' : Nat} {A D' : Option Addr} {L : List RecM} {B : Nat} (h : RecsRd w B A n L) (hn : n ≤ 1000000000000) (hm : m ≤ 1000000) (hL : ∀ r ∈ L, r.data.length ≤ 1000000) :
    Calls Try.prog 31 #[.slice A n c, .slice D' m dc'] w fun e w' => e = .returned (.int .i64 (contM L m)) ∧ w = w' := by
  rcases Nat.eq_zero_or_pos n with h0 | h0
  · subst h0
    have hl : L = [] := List.eq_nil_of_length_eq_zero h.len
    subst hl
    go_enter Try.func31, Try.ntmps31
    go_wp2
    go_ret
    exact ⟨rfl, rfl⟩
  · obtain ⟨a, rfl, hb, hr⟩ := h.at_ h0
    have hlen := h.len
    have hk : n - 1 < L.length := by omega
    obtain ⟨D, dc, C, cc, hat⟩ := hr (n - 1) L[n - 1] (List.getElem?_eq_getElem hk)
    have hlast : L.getLast? = some L[n - 1] := by rw [List.getLast?_eq_getElem?, show L.length - 1 = n - 1 by omega]; exact List.getElem?_eq_getElem hk
    have hmem := hL _ (List.getElem_mem hk)
    generalize L[n - 1] = r at *
    have hcont := contM_some hlast m
    have c1 := hat.c1
    generalize r.data.length = q at *
    have hz : ((n : Int) == 0) = false := by simp; omega
    have hi : ((n : Int) - 1).toNat = n - 1 := by omega
    clear hr hat hlast hk h hL hlen
    by_cases hm0 : m = 0
    · have HC := Lib.hid (show contM L m = 2 by rw [hcont, if_pos (.inl hm0)])
      have hb' : ((m : Int) == 0) = true := by simp; omega
      clear hm0 hcont
      go_enter Try.func31, Try.ntmps31
      go_wp2
      go_ret
      exact ⟨by rw [HC.out]; rfl, rfl⟩
    have hb' : ((m : Int) == 0) = false := by simp; omega
    by_cases hq0 : q = 0
    · have HC := Lib.hid (show contM L m = 2 by rw [hcont, if_pos (.inr hq0)])
      have hq' : ((q : Int) == 0) = true := by simp; omega
      clear hq0 hcont
      go_enter Try.func31, Try.ntmps31
      go_wp2
      go_ret
      exact ⟨by rw [HC.out]; rfl, rfl⟩
    have hq' : ((q : Int) == 0) = false := by simp; omega
    by_cases hbig : 65536 < q + m
    · have HC := Lib.hid (show contM L m = 4 by rw [hcont, if_neg (by omega), if_pos hbig])
      have hbig' : (65536 : Int) < (q : Int) + (m : Int) := by omega
      clear hcont hm0 hq0
      go_enter Try.func31, Try.ntmps31
      go_wp2
      go_ret
      exact ⟨by rw [HC.out]; rfl, rfl⟩
    · have HC := Lib.hid (show contM L m = 0 by rw [hcont, if_neg (by omega), if_neg hbig])
      have hbig' : ¬ (65536 : Int) < (q : Int) + (m : Int) := by omega
      clear hcont hm0 hq0
      go_enter Try.func31, Try.ntmps31
      go_wp2
      go_ret
      exact ⟨by rw [HC.out]; rfl, rfl⟩
end Go.Proofs.Ytpjimppfgmemeaa
