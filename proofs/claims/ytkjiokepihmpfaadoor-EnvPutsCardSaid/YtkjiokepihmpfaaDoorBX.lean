/- Boxes of a call's own, told as a list: made, read, written as wholes, without being looked into. No condition. -/
import Derived.Test.YtkjiokepihmpfaaDoorSt
import Derived.Test.YtkjiokepihmpfaaDoorNx
set_option linter.unusedVariables false
set_option linter.unusedSimpArgs false
namespace Go.Proofs.YtkjiokepihmpfaaDoor
open Go.RowKit

abbrev Bxs := List (Nat × TypeId × List Value)
structure BX (w : World) (bs : Bxs) (W : World) : Prop where
  bel : Below w.heap.size w W
  lo : ∀ b ∈ bs, w.heap.size ≤ b.1
  bk : ∀ b ∈ bs, Bk W b.1 b.2.1 b.2.2.toArray
  nd : (bs.map (·.1)).Nodup

section
variable {w W W' : World} {bs : Bxs} {g i : Nat} {ty : TypeId} {cs vs : List Value}
theorem BX.start (w : World) : BX w [] w := ⟨Below.refl _ _, by simp, by simp, by simp⟩
theorem BX.call (h : BX w bs W) (hb : Below W.heap.size W W') : BX w bs W' := ⟨h.bel.trans (hb.mono h.bel.size), h.lo, fun b hm => (h.bk b hm).below hb (h.bk b hm).lt, h.nd⟩
theorem BX.drew (h : BX w bs W) : BX w bs W.drew := ⟨h.bel.drew, h.lo, h.bk, h.nd⟩
theorem BX.made (h : BX w bs W) (ty : TypeId) (cs : List Value) : BX w ((W.heap.size, ty, cs) :: bs) (W.alloc (.cells cs.toArray ty)) := by
  refine ⟨h.bel.alloc h.bel.size _, fun b hb => ?_, fun b hb => ?_, ?_⟩
  · rcases List.mem_cons.1 hb with rfl | hb
    · exact h.bel.size
    · exact h.lo b hb
  · rcases List.mem_cons.1 hb with rfl | hb
    · exact Bk.new W ty cs.toArray
    · exact (h.bk b hb).alloc _
  · rw [List.map_cons, List.nodup_cons]
    refine ⟨fun hm => ?_, h.nd⟩
    obtain ⟨b, hb, e⟩ := List.mem_map.1 hm
    have := (h.bk b hb).lt
    omega
theorem BX.other (h : BX w bs W) (o : Obj) : BX w bs (W.alloc o) := h.call (bel0 W o)
theorem BX.get (h : BX w bs W) (hi : bs[i]? = some (g, ty, cs)) : Bk W g ty cs.toArray := h.bk _ (List.mem_of_getElem? hi)
theorem BX.cell (h : BX w bs W) (hi : bs[i]? = some (g, ty, cs)) (k : Nat) : W.cell? ⟨g, k, none⟩ = cs[k]? := by rw [(h.get hi).cell]; simp
theorem BX.frozen (h : BX w bs W) (hi : bs[i]? = some (g, ty, cs)) (k : Nat) : W.frozen? ⟨g, k, none⟩ = false := (h.get hi).frozen k
/-- One box turned, all else as it was. -/
theorem BX.turn (h : BX w bs W) (hi : bs[i]? = some (g, ty, cs)) (hk : Bk W' g ty vs.toArray) (hK : Keep (fun j => j = g) W W') : BX w (bs.set i (g, ty, vs)) W' := by
  have hg := h.lo _ (List.mem_of_getElem? hi)
  have hmap : (bs.set i (g, ty, vs)).map (·.1) = bs.map (·.1) := by
    rw [List.map_set]
    apply List.ext_getElem?
    intro j
    rw [List.getElem?_set, List.getElem?_map]
    split
    · subst_vars
      rw [List.length_map, if_pos (List.getElem?_eq_some_iff.1 hi).1, hi]
      rfl
    · rfl
  refine ⟨h.bel.trans (hK.below (B := w.heap.size) h.bel.size fun j hj e => by have : w.heap.size ≤ g := hg; omega), fun b hb => ?_, fun b hb => ?_, by rw [hmap]; exact h.nd⟩
  · rcases List.mem_or_eq_of_mem_set hb with hb | rfl
    · exact h.lo b hb
    · exact hg
  · obtain ⟨j, hj⟩ := List.getElem?_of_mem hb
    rw [List.getElem?_set] at hj
    split at hj
    · split at hj
      · injection hj with hj
        subst hj
        exact hk
      · cases hj
    · rename_i hne
      refine hK.bk (h.bk b (List.mem_of_getElem? hj)) fun e => ?_
      have h1 : (bs.map (·.1))[i]? = some g := by rw [List.getElem?_map, hi]; rfl
      have h2 : (bs.map (·.1))[j]? = some g := by rw [List.getElem?_map, hj, ← e]; rfl
      obtain ⟨l1, e1⟩ := List.getElem?_eq_some_iff.1 h1
      obtain ⟨l2, e2⟩ := List.getElem?_eq_some_iff.1 h2
      exact hne ((List.getElem_inj h.nd).1 (e1.trans e2.symm))
theorem BX.some_ {bs' : Bxs} (h : BX w bs W) (hs : bs'.Sublist bs) : BX w bs' W := ⟨h.bel, fun b hb => h.lo b (hs.subset hb), fun b hb => h.bk b (hs.subset hb), h.nd.sublist (hs.map _)⟩
end

/-- A struct's type: how many cells, all its own. -/
structure RowT (ty : TypeId) (n : Nat) : Prop where
  und : ∃ d, Tryd.prog.underlying ty = some d ∧ d.isRow = true
  size : (Tryd.prog.info? ty).map (·.size) = some n
/-- The cells of a Cursor, of a Ref, of a value, of a decimal, of a token. -/
def cu (A : Option Addr) (n c : Nat) (at_ : Int) : List Value := [.slice A n c, .int .i64 at_]
def rc (r c : Int) (x y : Bool) : List Value := [.int .i64 r, .int .i64 c, .bool x, .bool y]
def vl (k m s : Int) (t : ByteArray) (b : Bool) (e : Int) : List Value := [.int .i64 k, .int .i64 m, .int .i64 s, .string t, .bool b, .int .i64 e]
def dcc (m s : Int) : List Value := [.int .i64 m, .int .i64 s]
def tc (p : Pay) (k : Value) (n : Int) : List Value := ec p k ++ [.int .i64 n]
def rd4 (A : Option Addr) (n c : Nat) (at_ cnt : Int) (v : Value) : List Value := [.slice A n c, .int .i64 at_, .int .i64 cnt, v]
theorem rtRef : RowT 79 4 := ⟨⟨_, Tryd.underlying79, rfl⟩, by kernel_rfl⟩
theorem rtVal : RowT 32 6 := ⟨⟨_, Tryd.underlying32, rfl⟩, by kernel_rfl⟩
theorem rtDec : RowT 30 2 := ⟨⟨_, Tryd.underlying30, rfl⟩, by kernel_rfl⟩
theorem rtExpr : RowT 83 18 := ⟨⟨_, Tryd.underlying83, rfl⟩, by kernel_rfl⟩
theorem cu_one {A : Option Addr} {n c : Nat} {at_ : Int} : ∀ u ∈ cu A n c at_, u.oneCell' = true := by
  intro u hu
  simp only [cu, List.mem_cons, List.not_mem_nil, or_false] at hu
  rcases hu with rfl | rfl <;> rfl
theorem rc_one {r c : Int} {x y : Bool} : ∀ u ∈ rc r c x y, u.oneCell' = true := by
  intro u hu
  simp only [rc, List.mem_cons, List.not_mem_nil, or_false] at hu
  rcases hu with rfl | rfl | rfl | rfl <;> rfl
theorem ec_one' {p : Pay} {A : Option Addr} {n c : Nat} : ∀ u ∈ ec p (.slice A n c), u.oneCell' = true := ec_one p
theorem tc_one {p : Pay} {A : Option Addr} {n c : Nat} {m : Int} : ∀ u ∈ tc p (.slice A n c) m, u.oneCell' = true := by
  intro u hu
  rcases List.mem_append.1 hu with h | h
  · exact ec_one p u h
  · simp only [List.mem_singleton] at h
    subst h
    rfl
theorem rd4_one {A B : Option Addr} {n c m d : Nat} {at_ cnt : Int} : ∀ u ∈ rd4 A n c at_ cnt (.slice B m d), u.oneCell' = true := by
  intro u hu
  simp only [rd4, List.mem_cons, List.not_mem_nil, or_false] at hu
  rcases hu with rfl | rfl | rfl | rfl <;> rfl
section
variable {o : Oper} {a : Act} {w W : World} {K : Act → World → Prop} {Q : Exit → Act → World → Prop} {bs : Bxs} {g i : Nat} {ty : TypeId} {cs vs : List Value}
theorem ldm_g (T : RowT ty cs.length) (x : Operand) {q : Addr} (ho : o.op = .load ty x) (hx : a.eval x = .pointer (some q)) (hb : ∀ (j : Nat) (u : Value), cs[j]? = some u → W.cell? (q.add j) = some u) (h : K (a.put o.dst (.agg cs.toArray)) W) : o.wp Tryd.prog a W K Q := by
  obtain ⟨d, hu, hd⟩ := T.und
  unfold Oper.wp execOp
  simp only [ho, hx, Instr.loadAt, Instr.sureAddr, Sem.run_bind, Sem.run_pure, Result.andThen_ok, load_any W q _ cs _ hb hu hd T.size]
  exact h
theorem ld_g (T : RowT ty cs.length) (H : Hid (BX w bs W)) (hi : bs[i]? = some (g, ty, cs)) (x : Operand) (ho : o.op = .load ty x) (hx : a.eval x = .pointer (some ⟨g, 0, none⟩)) (h : K (a.put o.dst (.agg cs.toArray)) W) : o.wp Tryd.prog a W K Q :=
  ldm_g T x ho hx (fun j u hu => by
    have e : (⟨g, 0, none⟩ : Addr).add j = ⟨g, j, none⟩ := by unfold Addr.add; split <;> simp_all
    rw [e, H.out.cell hi]; exact hu) h
theorem st_g (T : RowT ty vs.length) (h1 : ∀ u ∈ vs, u.oneCell' = true) (H : Hid (BX w bs W)) (hi : bs[i]? = some (g, ty, cs)) (hl : cs.length = vs.length) (x y : Operand) (ho : o.op = .store ty x y) (hx : a.eval x = .pointer (some ⟨g, 0, none⟩)) (hy : a.eval y = .agg vs.toArray)
    (h : ∀ W', Hid (BX w (bs.set i (g, ty, vs)) W') → K (a.put o.dst undef) W') : o.wp Tryd.prog a W K Q := by
  have hb := H.out.get hi
  refine wp_store_mid _ x y ho g 0 vs.toArray hx hy (fun j hj => ?_) (by rw [List.size_toArray]; exact T.size) (all_oneCell_toArray h1) ?_
  · rw [List.size_toArray] at hj
    rw [Nat.zero_add, hb.cell, hb.frozen]
    exact ⟨by simp; omega, rfl⟩
  · have h2 := setCells_bk vs 0 cs W hb (by omega)
    have e : cs.take 0 ++ vs ++ cs.drop (0 + vs.length) = vs := by simp [List.drop_eq_nil_of_le (Nat.le_of_eq hl)]
    rw [e] at h2
    exact h _ (Lib.hid (H.out.turn hi h2 (setCells_keep _ _ _)))
/-- The walk stands still ahead of an operation. -/
theorem stop_st (x y : Operand) (ho : o.op = .store ty x y) (h : Hid (o.wp Tryd.prog a W K Q)) : o.wp Tryd.prog a W K Q := h.out
theorem stop_ld (x : Operand) (ho : o.op = .load ty x) (h : Hid (o.wp Tryd.prog a W K Q)) : o.wp Tryd.prog a W K Q := h.out
theorem stop_al (ho : o.op = .alloc ty) (h : Hid (o.wp Tryd.prog a W K Q)) : o.wp Tryd.prog a W K Q := h.out
theorem stop_bx (x : Operand) (ho : o.op = .box ty x) (h : Hid (o.wp Tryd.prog a W K Q)) : o.wp Tryd.prog a W K Q := h.out
theorem is_ld (ty : TypeId) (x : Operand) (ho : o.op = .load ty x) (h : o.wp Tryd.prog a W K Q) : o.wp Tryd.prog a W K Q := h
theorem is_st (ty : TypeId) (x y : Operand) (ho : o.op = .store ty x y) (h : o.wp Tryd.prog a W K Q) : o.wp Tryd.prog a W K Q := h
theorem is_al (ty : TypeId) (ho : o.op = .alloc ty) (h : o.wp Tryd.prog a W K Q) : o.wp Tryd.prog a W K Q := h
theorem is_bx (ty : TypeId) (x : Operand) (ho : o.op = .box ty x) (h : o.wp Tryd.prog a W K Q) : o.wp Tryd.prog a W K Q := h
theorem stop_bd {ps : Array (Nat × Operand)} (ho : o.op = .build ty ps) (h : Hid (o.wp Tryd.prog a W K Q)) : o.wp Tryd.prog a W K Q := h.out
/-- A box made, or made of a value. -/
theorem al_g (H : Hid (BX w bs W)) (ty : TypeId) (cs : List Value) (hr : (execOp a.eval o).run Tryd.prog W = .ok (.value (.pointer (some ⟨W.heap.size, 0, none⟩))) (W.alloc (.cells cs.toArray ty))) (h : ∀ g W', Hid (BX w ((g, ty, cs) :: bs) W') → K (a.put o.dst (.pointer (some ⟨g, 0, none⟩))) W') : o.wp Tryd.prog a W K Q := by
  unfold Oper.wp
  rw [hr]
  exact h _ _ (Lib.hid (H.out.made ty cs))
/-- A part of a box that is a struct. -/
theorem ss_g {off : Nat} {T : TypeId} (R : RowT ty vs.length) (h1 : ∀ u ∈ vs, u.oneCell' = true) (H : Hid (BX w bs W)) (hi : bs[i]? = some (g, T, cs)) (hl : off + vs.length ≤ cs.length) (x y : Operand) (ho : o.op = .store ty x y) (hx : a.eval x = .pointer (some ⟨g, off, none⟩)) (hy : a.eval y = .agg vs.toArray)
    {ds : List Value} (hd : cs.take off ++ vs ++ cs.drop (off + vs.length) = ds) (h : ∀ W', Hid (BX w (bs.set i (g, T, ds)) W') → K (a.put o.dst undef) W') : o.wp Tryd.prog a W K Q := by
  have hb := H.out.get hi
  refine wp_store_mid _ x y ho g off vs.toArray hx hy (fun j hj => ?_) (by rw [List.size_toArray]; exact R.size) (all_oneCell_toArray h1) ?_
  · rw [List.size_toArray] at hj
    rw [hb.cell, hb.frozen]
    exact ⟨by simp; omega, rfl⟩
  · have h2 := setCells_bk vs off cs W hb hl
    rw [hd] at h2
    exact h _ (Lib.hid (H.out.turn hi h2 (setCells_keep _ _ _)))
theorem sf_bk {k : Nat} {u : Value} (hb : Bk W g ty cs.toArray) : Bk (W.setCell ⟨g, k, none⟩ u) g ty (cs.set k u).toArray := by
  have := hb.set_ k u
  rwa [List.setIfInBounds_toArray] at this
end
section
variable {o : Oper} {a : Act} {w W : World} {K : Act → World → Prop} {Q : Exit → Act → World → Prop} {bs : Bxs} {g k : Nat} {T : TypeId} {cs : List Value} {u u0 : Value}
theorem lf_int (i : Nat) (H : Hid (BX w bs W)) (hi : bs[i]? = some (g, T, cs)) (x : Operand) (ho : o.op = .load 3 x) (hx : a.eval x = .pointer (some ⟨g, k, none⟩)) (hc : cs[k]? = some u) (h : K (a.put o.dst u) W) : o.wp Tryd.prog a W K Q := by
  have c := H.out.cell hi k
  rw [hc] at c
  unfold Oper.wp execOp
  rw [ho]
  simp only [hx]
  clear ho hx hc hi H
  go_simp
  exact h
theorem sf_int (i : Nat) (H : Hid (BX w bs W)) (hi : bs[i]? = some (g, T, cs)) (x y : Operand) (ho : o.op = .store 3 x y) (hx : a.eval x = .pointer (some ⟨g, k, none⟩)) {z : Int} (hy : a.eval y = (.int .i64 z)) (hc : cs[k]? = some u0) {ds : List Value} (hd : cs.set k (.int .i64 z) = ds)
    (h : ∀ W', Hid (BX w (bs.set i (g, T, ds)) W') → K (a.put o.dst undef) W') : o.wp Tryd.prog a W K Q := by
  have c := H.out.cell hi k
  rw [hc] at c
  have f := H.out.frozen hi k
  have hk : BX w (bs.set i (g, T, ds)) (W.setCell ⟨g, k, none⟩ (.int .i64 z)) := by
    rw [← hd]
    exact H.out.turn hi (sf_bk (H.out.get hi)) ((Keep.refl (fun i => i = g) W).setCell (p := ⟨g, k, none⟩) (fun _ => rfl) _)
  have h2 := h _ (Lib.hid hk)
  unfold Oper.wp execOp
  rw [ho]
  simp only [hx, hy]
  clear ho hx hy hi H hk h hc
  go_simp
  exact h2
theorem lf_es (i : Nat) (H : Hid (BX w bs W)) (hi : bs[i]? = some (g, T, cs)) (x : Operand) (ho : o.op = .load 26 x) (hx : a.eval x = .pointer (some ⟨g, k, none⟩)) (hc : cs[k]? = some u) (h : K (a.put o.dst u) W) : o.wp Tryd.prog a W K Q := by
  have c := H.out.cell hi k
  rw [hc] at c
  unfold Oper.wp execOp
  rw [ho]
  simp only [hx]
  clear ho hx hc hi H
  go_simp
  exact h
theorem sf_es (i : Nat) (H : Hid (BX w bs W)) (hi : bs[i]? = some (g, T, cs)) (x y : Operand) (ho : o.op = .store 26 x y) (hx : a.eval x = .pointer (some ⟨g, k, none⟩)) {A : Option Addr} {n cp : Nat} (hy : a.eval y = (.slice A n cp)) (hc : cs[k]? = some u0) {ds : List Value} (hd : cs.set k (.slice A n cp) = ds)
    (h : ∀ W', Hid (BX w (bs.set i (g, T, ds)) W') → K (a.put o.dst undef) W') : o.wp Tryd.prog a W K Q := by
  have c := H.out.cell hi k
  rw [hc] at c
  have f := H.out.frozen hi k
  have hk : BX w (bs.set i (g, T, ds)) (W.setCell ⟨g, k, none⟩ (.slice A n cp)) := by
    rw [← hd]
    exact H.out.turn hi (sf_bk (H.out.get hi)) ((Keep.refl (fun i => i = g) W).setCell (p := ⟨g, k, none⟩) (fun _ => rfl) _)
  have h2 := h _ (Lib.hid hk)
  unfold Oper.wp execOp
  rw [ho]
  simp only [hx, hy]
  clear ho hx hy hi H hk h hc
  go_simp
  exact h2
theorem lf_bs (i : Nat) (H : Hid (BX w bs W)) (hi : bs[i]? = some (g, T, cs)) (x : Operand) (ho : o.op = .load 22 x) (hx : a.eval x = .pointer (some ⟨g, k, none⟩)) (hc : cs[k]? = some u) (h : K (a.put o.dst u) W) : o.wp Tryd.prog a W K Q := by
  have c := H.out.cell hi k
  rw [hc] at c
  unfold Oper.wp execOp
  rw [ho]
  simp only [hx]
  clear ho hx hc hi H
  go_simp
  exact h
theorem sf_bs (i : Nat) (H : Hid (BX w bs W)) (hi : bs[i]? = some (g, T, cs)) (x y : Operand) (ho : o.op = .store 22 x y) (hx : a.eval x = .pointer (some ⟨g, k, none⟩)) {A : Option Addr} {n cp : Nat} (hy : a.eval y = (.slice A n cp)) (hc : cs[k]? = some u0) {ds : List Value} (hd : cs.set k (.slice A n cp) = ds)
    (h : ∀ W', Hid (BX w (bs.set i (g, T, ds)) W') → K (a.put o.dst undef) W') : o.wp Tryd.prog a W K Q := by
  have c := H.out.cell hi k
  rw [hc] at c
  have f := H.out.frozen hi k
  have hk : BX w (bs.set i (g, T, ds)) (W.setCell ⟨g, k, none⟩ (.slice A n cp)) := by
    rw [← hd]
    exact H.out.turn hi (sf_bk (H.out.get hi)) ((Keep.refl (fun i => i = g) W).setCell (p := ⟨g, k, none⟩) (fun _ => rfl) _)
  have h2 := h _ (Lib.hid hk)
  unfold Oper.wp execOp
  rw [ho]
  simp only [hx, hy]
  clear ho hx hy hi H hk h hc
  go_simp
  exact h2
end
end Go.Proofs.YtkjiokepihmpfaaDoor
