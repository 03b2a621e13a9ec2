/- (*strings.Builder).Len and WriteString by their contracts (the library's, walked anew at this dump). Condition: the builder is the call's own, and is not too long. -/
/- A builder of one's own beside boxes; words are not too long. No condition. -/
import Derived.Test.YtngkolcpbgibcaaGreatDoorJoin
import Derived.Test.YtngkolcpbgibcaaGreatDoorN1
set_option linter.unusedVariables false
set_option linter.unusedSimpArgs false
namespace Go.Proofs.YtngkolcpbgibcaaGreatDoor
open Go.RowKit Go.Lib
theorem byteInfo : ∃ i0, Tryz.prog.info? 5 = some i0 ∧ i0.zero = some (.int .u8 0) ∧ i0.size = 1 ∧ i0.bytes = 1 := info_parts (P := Tryz.prog) (e := 5) (z := .int .u8 0) (size := 1) (bytes := 1) (by kernel_rfl)
set_option maxHeartbeats 4000000 in
set_option maxRecDepth 100000 in
theorem bLen_any (B b : Nat) (bs : List Value) (w : World) (h : Lib.IsBuilderF TB TE B b bs w) :
    Calls Tryz.prog 112 #[.pointer (some ⟨b, 0, none⟩)] w fun e w' => e = .returned (.int .i64 bs.length) ∧ w' = w := by
  obtain ⟨p, hB, v, hbk, hown, hne⟩ : ∃ p, Lib.BuilderAtF TB TE B b p bs w := by
    rcases h with h | h
    · exact ⟨_, h⟩
    · exact ⟨_, h⟩
  obtain ⟨ao, cap, rfl⟩ : ∃ ao cap, v = .slice ao bs.length cap := by
    rcases hown.2 with ⟨hv, h0⟩ | ⟨g, cap, cur, fz, hv, _⟩
    · exact ⟨none, 0, by rw [hv, h0]⟩
    · exact ⟨_, _, hv⟩
  have c1 : w.cell? ⟨b, 1, none⟩ = some (.slice ao bs.length cap) := by rw [Lib.cell_of_heap hbk]; rfl
  clear h hown hbk hne; generalize bs.length = n at *; go_enter Tryz.func112, Tryz.ntmps112; go_wp2; go_ret; exact ⟨rfl, rfl⟩
set_option maxHeartbeats 4000000 in
set_option maxRecDepth 100000 in
theorem writeString_any (B b : Nat) (bs : List Value) (s : ByteArray) (w : World) (h : Lib.IsBuilderF TB TE B b bs w) (hlen : bs.length + s.size ≤ 140737488355328) (hBw : B ≤ w.heap.size) :
    Calls Tryz.prog 113 #[.pointer (some ⟨b, 0, none⟩), .string s] w fun e w' => e = .returned (.tuple #[.int .i64 s.size, .nilIface]) ∧ (Lib.BuilderAtF TB TE B b (.pointer (some ⟨b, 0, none⟩)) (bs ++ Lib.strCells s) w' ∧ Below B w w' ∧ Lib.OthersKept TE (some b) w w') := by
  obtain ⟨i0, hi, hz0, hz1, hz2⟩ := byteInfo; go_enter Tryz.func113, Tryz.ntmps113
  go_wp2_with fail
  refine (copyCheck_any B b bs _ h).mono ?_; rintro e w1 ⟨rfl, h1, hb1, hk1⟩; obtain ⟨hB, v, hbk, hown, hne⟩ := h1; have c0 : w1.cell? ⟨b, 0, none⟩ = some (.pointer (some ⟨b, 0, none⟩)) := by rw [Lib.cell_of_heap hbk]; rfl
  have c1 : w1.cell? ⟨b, 1, none⟩ = some v := by rw [Lib.cell_of_heap hbk]; rfl
  go_wp2_with (at_builtin; refine Lib.wpList_append_own_stringF _ rfl _ _ 148 9 rfl B 5 i0 Tryz.underlying148 Tryz.underlying9 hi hz0 hz1 hz2 _ _ _ rfl hown s rfl ?c3 ?c4 ?c5 ?_)
  case c3 => unfold maxLen; omega
  case c4 => omega
  case c5 => have := hb1.size; omega
  intro v' w2 hown' hgrow _
  have hlt : b < w1.heap.size := by
    rcases Nat.lt_or_ge b w1.heap.size with h' | h'
    · exact h'
    · simp [Array.getElem?_eq_none h'] at hbk
  have hb2 : w2.heap[b]? = some (.cells #[.pointer (some ⟨b, 0, none⟩), v] TB (0, 0)) := by
    rw [hgrow.block b hlt (fun e => hne e.symm)]; exact hbk
  have d0 : w2.cell? ⟨b, 0, none⟩ = some (.pointer (some ⟨b, 0, none⟩)) := by rw [Lib.cell_of_heap hb2]; rfl
  have d1 : w2.cell? ⟨b, 1, none⟩ = some v := by rw [Lib.cell_of_heap hb2]; rfl
  have f1 : w2.frozen? ⟨b, 1, none⟩ = false := Lib.frozen_of_heap hb2 1
  obtain ⟨ao, n', cap, rfl⟩ : ∃ ao n' cap, v' = .slice ao n' cap := by
    rcases hown'.2 with ⟨hv, _⟩ | ⟨g, cap, cur, fz, hv, _⟩
    · exact ⟨_, _, _, hv⟩
    · exact ⟨_, _, _, hv⟩
  go_wp2
  go_ret2
  refine ⟨rfl, ?_, ?_, (hk1.grown hgrow (Lib.ownsRowF_kind hown)).setCell ⟨b, 1, none⟩ rfl _⟩
  · exact Lib.BuilderAtF.put (T := TB) (e := TE) hB hb2 (bs' := bs ++ Lib.strCells s) (by simpa [Lib.strCells_length] using hown') (by decide)
  · exact (hb1.grown hgrow (by have := hb1.size; omega) (fun k hk => (hown.lt k hk).1)).setCell (p := ⟨b, 1, none⟩) hB _
end Go.Proofs.YtngkolcpbgibcaaGreatDoor
namespace Go.Proofs.YtngkolcpbgibcaaGreatDoor
open Go.RowKit Go.Shelf
theorem decTx_len {m : Int} {s : Nat} (h : Gd m s) : (decTx m s).length ≤ 40 := by
  have hd : (digs m.natAbs).length ≤ 19 := digs_len.2 (by have := h.lo; have := h.hi; omega); have hs := h.s9
  have hp : (padded m.natAbs s).length ≤ 29 := by
    unfold padded; rw [List.length_append, List.length_replicate]; omega
  unfold decTx body; simp only [List.length_append, List.length_reverse, List.length_map, List.length_drop, List.length_take]; have h1 : (if m < 0 then [(45 : UInt8)] else []).length ≤ 1 := by split <;> simp
  have h2 : (if 0 < s then [(46 : UInt8)] else []).length ≤ 1 := by split <;> simp
  omega
theorem wrd_len {x : VX} (h : PV x) {t : List UInt8} (ht : wrdX x = .ok t) : t.length ≤ 100000000 := by
  cases x with
  | blank => simp only [wrdX, WR.ok.injEq] at ht; subst ht; simp
  | num m s =>
    simp only [wrdX, WR.ok.injEq] at ht; subst ht; have := decTx_len (show Gd m s from h.1); omega
  | str l => simp only [wrdX, WR.ok.injEq] at ht; subst ht; exact h.2
  | bool b => simp only [wrdX, WR.ok.injEq] at ht; subst ht; cases b <;> decide
  | err e => simp [wrdX] at ht
theorem bx_kept {w W W' : World} {bs : Bxs} {B b : Nat} (h : BX w bs W) (hb : Below B W W') (ho : Lib.OthersKept TE (some b) W W') (hB : w.heap.size ≤ B) (hn : ∀ x ∈ bs, x.1 ≠ b ∧ x.2.1 ≠ TE) : BX w bs W' := by
  refine ⟨h.bel.trans (hb.mono hB), h.lo, fun x hx => ?_, h.nd⟩; have h1 := h.bk x hx; unfold Bk at h1 ⊢; refine ho x.1 _ h1 (fun e => (hn x hx).1 (by injection e)) fun c fz e => (hn x hx).2 (by injection e)
theorem rk_kept {n0 n2 B0 B b : Nat} {W W' : World} (hb : Below B W W') (ho : Lib.OthersKept TE (some b) W W') (hn : n0 ≤ B) (h2 : b < n2) (hB0 : n2 ≤ B0) : RK n0 n2 B0 W W' := by
  refine ⟨⟨hb.mono hn, fun i o hi h hk => ho i o h (fun e => by injection e; omega) fun c fz e => ?_⟩, ⟨hb.size, fun i o hi h hc => ho i o h (fun e => by injection e; omega) fun c fz e => ?_⟩⟩
  · subst e; exact absurd (show pkT TE = true from hk) (by decide)
  · subst e
    cases hc
theorem isB_keep {B b : Nat} {bs : List Value} {W W' : World} {T : Nat → Prop} (h : Lib.IsBuilderF TB TE B b bs W) (hk : Keep T W W') (hT : ∀ i cs t fz, W.heap[i]? = some (.cells cs t fz) → B ≤ i → ¬ T i) : Lib.IsBuilderF TB TE B b bs W' := by
  have go : ∀ {p : Value}, Lib.BuilderAtF TB TE B b p bs W → Lib.BuilderAtF TB TE B b p bs W' := by
    rintro p ⟨hB, v, hb, ho, hne⟩; refine ⟨hB, v, ?_, ⟨ho.1, ?_⟩, hne⟩
    · rw [hk.block b (Array.getElem?_eq_some_iff.1 hb).1 (hT b _ _ _ hb hB)]; exact hb
    · rcases ho.2 with h | ⟨g, cap, cur, fz, e, hg, hh, r⟩
      · exact .inl h
      · exact .inr ⟨g, cap, cur, fz, e, hg, by rw [hk.block g (Array.getElem?_eq_some_iff.1 hh).1 (hT g _ _ _ hh hg)]; exact hh, r⟩
  exact h.imp go go
theorem isB_below {B b : Nat} {bs : List Value} {W W' : World} (h : Lib.IsBuilderF TB TE B b bs W) (hb : Below W.heap.size W W') : Lib.IsBuilderF TB TE B b bs W' :=
  isB_keep (T := fun _ => False) h (Keep.of_below hb fun i hi hB => by omega) fun _ _ _ _ _ _ h => h
theorem isB_new {w W : World} {g : Nat} (h : Bk W g TB [.pointer none, .slice none 0 0].toArray) : Lib.IsBuilderF TB TE g g (Lib.byteCells []) W :=
  .inl ⟨Nat.le_refl _, .slice none 0 0, h, ⟨rfl, .inl ⟨rfl, rfl⟩⟩, by simp [Value.ownBlock]⟩
theorem al_g {o : Oper} {a : Act} {w W : World} {K : Act → World → Prop} {Q : Exit → Act → World → Prop} {bs : Bxs} {e : TypeId} (H : Hid (BX w bs W)) (cs : List Value) (hr : (execOp a.eval o).run Tryz.prog W = .ok (.value (.pointer (some ⟨W.heap.size, 0, none⟩))) (W.alloc (.cells cs.toArray e))) (h : ∀ g W', (∀ b ∈ bs, b.1 < g) → Hid (BX w ((g, e, cs) :: bs) W') → K (a.put o.dst (.pointer (some ⟨g, 0, none⟩))) W') : o.wp Tryz.prog a W K Q := by
  unfold Oper.wp; rw [hr]; exact h _ _ (fun b hb => (H.out.bk b hb).lt) (Lib.hid (H.out.made e cs))
end Go.Proofs.YtngkolcpbgibcaaGreatDoor
