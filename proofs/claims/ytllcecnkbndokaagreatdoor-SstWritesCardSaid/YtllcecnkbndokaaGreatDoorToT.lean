/- cashbooklaw1.To by its contract: a copy of the record, in memory of its own. Condition: its slices read as lists. -/
/- cashbooklaw7.To by its contract: a copy of the table, in memory of its own. Condition: its texts read as such. -/
import Derived.Test.YtllcecnkbndokaaGreatDoorRec7
import Derived.Test.YtllcecnkbndokaaGreatDoorPhase
import Derived.Test.YtllcecnkbndokaaGreatDoorCut7
namespace Go.Proofs.YtllcecnkbndokaaGreatDoor
open Go.RowKit

section
variable {P : Program} {w : World} {t ty e size bytes m c g : Nat} {z : Value} {A : Option Addr} {news : List Value} {base B : Nat}

/-- append onto an empty row that is none's: what was there stays. -/
theorem run_app0 (E : ElemRow P t e z size bytes) (hown : w.ownsRow base e size (.slice (some ⟨g, 0, none⟩) 0 0) 0 []) (hr : Rd w B size A m news) (h1 : ∀ u ∈ news, u.oneCell' = true)
    (h63 : m ≤ maxLen) (hbytes : m * bytes ≤ 140737488355328) (hbase : base ≤ w.heap.size) :
    ∃ b k w', (Builtin.append_ #[t, t] ty #[.slice (some ⟨g, 0, none⟩) 0 0, .slice A m c]).run P w = .ok (.slice (some b) m k) w' ∧ w'.ownsRow base e size (.slice (some b) m k) m news ∧ Below w.heap.size w w' := by
  obtain ⟨i, hi, hz, hs, hb⟩ := E.info
  rcases Nat.eq_zero_or_pos m with rfl | hm
  · have hn : news = [] := List.eq_nil_of_length_eq_zero (by simpa using hr.len)
    subst hn
    refine ⟨⟨g, 0, none⟩, 0, w, ?_, hown, Below.refl _ _⟩
    cases A <;> simp [Builtin.append_, run_underlying E.under, sizeOf, typeInfo, hi, Builtin.lenOf, Builtin.firstCells, storeCells, loadCells, loadCellsFrom]
  · obtain ⟨a, rfl, _, hcells⟩ := hr.at_ hm
    obtain ⟨v', w', h, h2, -⟩ := run_append_own_at (P := P) w base t ty e i z size bytes E.under hi hz hs hb E.zero E.pos _ 0 [] hown a m c news hr.len hcells h1 (by omega) (by simpa using hbytes) hbase
    have hmb : m ≤ 9223372036854775807 := by simp only [maxLen] at h63; omega
    have h' := run_append_grow (P := P) w t ty e i z E.under hi hz ⟨g, 0, none⟩ 0 0 [] (by simp) (by simp) a m c news (by rw [hs]; exact hr.len) hcells (by omega) (by simp; omega) (growslice_fits (by omega) (by rw [hb]; simpa using hbytes))
    rw [h] at h'
    injection h' with hv hw
    simp only [Nat.zero_add, List.nil_append] at hv h h2
    subst hv
    refine ⟨_, _, w', h, h2, ?_⟩
    rw [hw]
    exact ((Below.refl _ _).drew).alloc (by simp) _

theorem lands_app0 {S : World → Prop} {F : World → World → Prop} {R : Value → World → Prop} {o : Oper} {a : Act} (E : ElemRow P t e z size bytes) (s x : Operand)
    (ho : o.op = .call { callee := .builtin .append, args := #[s, x], argTypes := #[t, t] })
    (hs : a.eval s = .slice (some ⟨g, 0, none⟩) 0 0) (hx : a.eval x = .slice A m c)
    (hown : w.ownsRow base e size (.slice (some ⟨g, 0, none⟩) 0 0) 0 []) (hr : Rd w B size A m news) (h1 : ∀ u ∈ news, u.oneCell' = true)
    (h63 : m ≤ maxLen) (hbytes : m * bytes ≤ 140737488355328) (hbase : base ≤ w.heap.size)
    (h : ∀ b k w', w'.ownsRow base e size (.slice (some b) m k) m news → Below w.heap.size w w' → R (.slice (some b) m k) w' ∧ S w' ∧ F w w') :
    Lands P S F R w ((execOp a.eval o).run P w) := by
  obtain ⟨b, k, w', hrun, h2, h3⟩ := run_app0 (ty := o.type) (c := c) E hown hr h1 h63 hbytes hbase
  unfold execOp
  simp only [ho, resolve, invoke, builtin, Sem.run_bind, Sem.run_pure, Result.andThen_ok, List.map_toArray, List.map_cons, List.map_nil, hs, hx, hrun]
  exact h b k w' h2 h3
end

/-- A row just made, with nothing in it. -/
def MadeF (R : Nat) (e : TypeId) : Value → World → Prop := fun v W => ∃ g, v = .slice (some ⟨g, 0, none⟩) 0 0 ∧ W.ownsRow (R + 1) e 1 (.slice (some ⟨g, 0, none⟩) 0 0) 0 []
/-- A row of the call's own. -/
def OwnF (R : Nat) (e : TypeId) (n : Nat) (xs : List Value) : Value → World → Prop := fun v W => ∃ b c, v = .slice (some b) n c ∧ W.ownsRow (R + 1) e 1 (.slice (some b) n c) n xs
def RecF (R : Nat) (t at_ : Int) (dn cn : Nat) (data cuts : List Value) : Value → World → Prop := fun v W => ∃ b c b' c', v = .agg #[.int .i64 t, .slice (some b) dn c, .slice (some b') cn c', .int .i64 at_] ∧
  W.ownsRow (R + 1) 5 1 (.slice (some b) dn c) dn data ∧ W.ownsRow (R + 1) 3 1 (.slice (some b') cn c') cn cuts
/-- The result lies there. -/
def GoodF (R : Nat) (t at_ : Int) (dn cn : Nat) (data cuts : List Value) (W : World) : Prop := ∃ b c b' c', Bk W R 30 #[.int .i64 t, .slice (some b) dn c, .slice (some b') cn c', .int .i64 at_] ∧
  W.ownsRow (R + 1) 5 1 (.slice (some b) dn c) dn data ∧ W.ownsRow (R + 1) 3 1 (.slice (some b') cn c') cn cuts

/-- One step: but for the result's block all stays; that one stays or is good. -/
def ToE (R : Nat) (t at_ : Int) (dn cn : Nat) (data cuts : List Value) (W W' : World) : Prop := Keep (fun i => i = R) W W' ∧ (W'.heap[R]? = W.heap[R]? ∨ GoodF R t at_ dn cn data cuts W')

structure ToS (w : World) (t at_ : Int) (D C : Option Addr) (dn dc cn cc : Nat) (W : World) : Prop where
  box : Bk W w.heap.size 36 #[.int .i64 t, .slice D dn dc, .slice C cn cc, .int .i64 at_]
  bel : Below w.heap.size w W
  res : ∃ u0 u1 u2 u3, Bk W (w.heap.size + 1) 30 #[u0, u1, u2, u3]

section
variable {w : World} {R : Nat} {t at_ : Int} {D C : Option Addr} {dn dc cn cc : Nat} {data cuts : List Value} {W W' : World}
theorem keep_own {e : TypeId} {v : Value} {n : Nat} {xs : List Value} (h : W.ownsRow (R + 1) e 1 v n xs) (hk : Keep (fun i => i = R) W W') : W'.ownsRow (R + 1) e 1 v n xs :=
  hk.own h fun i hi e => by have := (h.lt i hi).1; omega
theorem ToE.of_below (hR : R < W.heap.size) (hb : Below W.heap.size W W') : ToE R t at_ dn cn data cuts W W' := ⟨Keep.of_below hb fun i hi h => by omega, .inl (hb.block R hR)⟩
theorem ToE.refl : ToE R t at_ dn cn data cuts W W := ⟨Keep.refl _ _, .inl rfl⟩
theorem stab_made {e : TypeId} : Stable (ToE R t at_ dn cn data cuts) (MadeF R e) := fun _ _ _ hE h => by
  obtain ⟨g, rfl, ho⟩ := h
  exact ⟨g, rfl, keep_own ho hE.1⟩
theorem stab_own {e : TypeId} {n : Nat} {xs : List Value} : Stable (ToE R t at_ dn cn data cuts) (OwnF R e n xs) := fun _ _ _ hE h => by
  obtain ⟨b, c, rfl, ho⟩ := h
  exact ⟨b, c, rfl, keep_own ho hE.1⟩
theorem stab_rec : Stable (ToE R t at_ dn cn data cuts) (RecF R t at_ dn cn data cuts) := fun _ _ _ hE h => by
  obtain ⟨b, c, b', c', rfl, o1, o2⟩ := h
  exact ⟨b, c, b', c', rfl, keep_own o1 hE.1, keep_own o2 hE.1⟩
theorem stab_good : Stable (ToE R t at_ dn cn data cuts) (fun _ => GoodF R t at_ dn cn data cuts) := fun _ _ _ hE h => by
  rcases hE.2 with hh | hh
  · obtain ⟨b, c, b', c', k, o1, o2⟩ := h
    exact ⟨b, c, b', c', by unfold Bk at *; rw [hh, k], keep_own o1 hE.1, keep_own o2 hE.1⟩
  · exact hh
theorem ToS.size (h : ToS w t at_ D C dn dc cn cc W) : w.heap.size + 2 ≤ W.heap.size := by
  obtain ⟨_, _, _, _, k⟩ := h.res
  exact k.lt
theorem ToS.below (h : ToS w t at_ D C dn dc cn cc W) (hb : Below W.heap.size W W') : ToS w t at_ D C dn dc cn cc W' := by
  obtain ⟨u0, u1, u2, u3, k⟩ := h.res
  exact ⟨h.box.below hb h.box.lt, h.bel.trans (hb.mono h.bel.size), u0, u1, u2, u3, k.below hb k.lt⟩
theorem ToS.s (h : ToS w t at_ D C dn dc cn cc W) : W.cell? ⟨w.heap.size, 0, none⟩ = some (.int .i64 t) ∧ W.cell? ⟨w.heap.size, 1, none⟩ = some (.slice D dn dc) ∧ W.cell? ⟨w.heap.size, 2, none⟩ = some (.slice C cn cc) ∧
    W.cell? ⟨w.heap.size, 3, none⟩ = some (.int .i64 at_) := ⟨h.box.cell 0, h.box.cell 1, h.box.cell 2, h.box.cell 3⟩
theorem ToS.e (h : ToS w t at_ D C dn dc cn cc W) (hb : Below W.heap.size W W') : ToE (w.heap.size + 1) t at_ dn cn data cuts W W' := ToE.of_below (by have := h.size; omega) hb
end

theorem made5 {base : Nat} (W : World) (hb : base ≤ W.heap.size) (t : TypeId) : (W.alloc (.cells #[] t)).ownsRow base t 1 (.slice (some ⟨W.heap.size, 0, none⟩) 0 0) 0 [] :=
  World.ownsRow_made W #[] 0 hb (by simp [maxLen]) (by simp)

/-- What is foretold: of the slots that are there, of those that are written. -/
def tl0 (w : World) : List (Nat × (Value → World → Prop)) := [(1, Is (.pointer (some ⟨w.heap.size, 0, none⟩))), (2, Is (.pointer (some ⟨w.heap.size + 1, 0, none⟩)))]
def tl1 (w : World) (t at_ : Int) (D C : Option Addr) (dn dc cn cc : Nat) (data cuts : List Value) : List (Nat × (Value → World → Prop)) :=
  [(3, Is (.pointer (some ⟨w.heap.size, 0, none⟩))), (4, Is (.int .i64 t)), (5, MadeF (w.heap.size + 1) 5), (6, Is (.pointer (some ⟨w.heap.size, 1, none⟩))), (7, Is (.slice D dn dc)), (8, OwnF (w.heap.size + 1) 5 dn data),
   (9, MadeF (w.heap.size + 1) 3), (10, Is (.pointer (some ⟨w.heap.size, 2, none⟩))), (11, Is (.slice C cn cc)), (12, OwnF (w.heap.size + 1) 3 cn cuts), (13, Is (.pointer (some ⟨w.heap.size, 3, none⟩))), (14, Is (.int .i64 at_)),
   (15, RecF (w.heap.size + 1) t at_ dn cn data cuts), (29, fun _ => GoodF (w.heap.size + 1) t at_ dn cn data cuts)]
def tk : List (List Tmp × Option (Tmp × Bool)) := [([1], none), ([3], none), ([], none), ([1], none), ([6], none), ([5, 7], none), ([], none), ([1], none), ([10], none), ([9, 11], none), ([1], none), ([13], none), ([4, 8, 12, 14], none), ([2, 15], none)]

theorem tstab (w : World) (t at_ : Int) (D C : Option Addr) (dn dc cn cc : Nat) (data cuts : List Value) : StableAll (ToE (w.heap.size + 1) t at_ dn cn data cuts) (tl0 w ++ tl1 w t at_ D C dn dc cn cc data cuts) :=
  ⟨stable_is _ _, stable_is _ _, stable_is _ _, stable_is _ _, stab_made, stable_is _ _, stable_is _ _, stab_own, stab_made, stable_is _ _, stable_is _ _, stab_own, stable_is _ _, stable_is _ _, stab_rec, stab_good, trivial⟩

set_option maxHeartbeats 4000000 in
set_option maxRecDepth 100000 in
theorem to_any {w : World} {B : Nat} {r : RecM} {D C : Option Addr} {dc cc : Nat} (hd : Rd w B 1 D r.data.length (r.data.map bv)) (hc : Rd w B 1 C r.cuts.length (r.cuts.map iv)) (hB : B ≤ w.heap.size)
    (hdn : r.data.length ≤ 140737488355328) (hcn : r.cuts.length * 8 ≤ 140737488355328) :
    Calls Tryz.prog 21 #[.agg #[.int .i64 r.type, .slice D r.data.length dc, .slice C r.cuts.length cc, .int .i64 r.at_]] w fun e w' =>
      ∃ dv cv, e = .returned (.agg #[.int .i64 r.type, dv, cv, .int .i64 r.at_]) ∧ w'.ownsRow w.heap.size 5 1 dv r.data.length (r.data.map bv) ∧
        w'.ownsRow w.heap.size 3 1 cv r.cuts.length (r.cuts.map iv) ∧ Below w.heap.size w w' := by
  obtain ⟨t, data, cuts, at_⟩ := r
  simp only at *
  have o1 := bv_one data
  have o2 := iv_one cuts
  generalize data.length = dn at *
  generalize cuts.length = cn at *
  generalize data.map bv = dl at *
  generalize cuts.map iv = cl at *
  have e1 : dn ≤ maxLen := by unfold maxLen; omega
  have e2 : dn * 1 ≤ 140737488355328 := by omega
  have e3 : cn ≤ maxLen := by unfold maxLen; omega
  go_enter Tryz.func21, Tryz.ntmps21
  go_wp2_with fail
  have I0 : ToS w t at_ D C dn dc cn cc ((w.alloc (.cells #[.int .i64 t, .slice D dn dc, .slice C cn cc, .int .i64 at_] 36)).alloc (.cells #[.int .i64 0, .slice none 0 0, .slice none 0 0, .int .i64 0] 30)) :=
    ⟨(Bk.new w _ _).alloc _, ((Below.refl _ _).alloc (Nat.le_refl _) _).alloc (by simp) _, _, _, _, _, by simpa using Bk.new (w.alloc _) 30 _⟩
  refine wp_region_tab (S := ToS w t at_ D C dn dc cn cc) (E := ToE (w.heap.size + 1) t at_ dn cn dl cl) (tl0 w) (tl1 w t at_ D C dn dc cn cc dl cl) tk
    (by as_aux_lemma => kernel_rfl) ?_ ?_ ?_ (tstab ..) ?_ (I0.below (Below.refl _ _).drew) ?_ ?_
  · as_aux_lemma => kernel_rfl
  · as_aux_lemma => kernel_rfl
  · as_aux_lemma => kernel_rfl
  · exact ⟨rfl, by simp [Is], trivial⟩
  · clear I0
    refine ⟨?_, ?_, ?_, ?_, ?_, ?_, ?_, ?_, ?_, ?_, ?_, ?_, ?_, ?_, trivial⟩
    · as_aux_lemma =>
        intro a W hS hL
        have e1 : a.tmps.getD 1 undef = .pointer (some ⟨w.heap.size, 0, none⟩) := hL.1
        clear hL
        go_simp
        exact ⟨⟨fun d hd => by injection hd with hd; subst hd; rfl, fun h => by cases h⟩, hS, ToE.refl⟩
    · as_aux_lemma =>
        intro a W hS hL
        have e3 : a.tmps.getD 3 undef = .pointer (some ⟨w.heap.size, 0, none⟩) := hL.1
        clear hL
        obtain ⟨f0, f1, f2, f3⟩ := hS.s
        go_simp
        exact ⟨⟨fun d hd => by injection hd with hd; subst hd; rfl, fun h => by cases h⟩, hS, ToE.refl⟩
    · as_aux_lemma =>
        intro a W hS hL
        clear hL
        go_simp
        have hb : Below W.heap.size W (W.alloc (.cells #[] 5)) := (Below.refl _ _).alloc (Nat.le_refl _) _
        exact ⟨⟨fun d hd => by injection hd with hd; subst hd; exact ⟨_, rfl, made5 W hS.size _⟩, fun h => by cases h⟩, hS.below hb, hS.e hb⟩
    · as_aux_lemma =>
        intro a W hS hL
        have e1 : a.tmps.getD 1 undef = .pointer (some ⟨w.heap.size, 0, none⟩) := hL.1
        clear hL
        go_simp
        exact ⟨⟨fun d hd => by injection hd with hd; subst hd; rfl, fun h => by cases h⟩, hS, ToE.refl⟩
    · as_aux_lemma =>
        intro a W hS hL
        have e6 : a.tmps.getD 6 undef = .pointer (some ⟨w.heap.size, 1, none⟩) := hL.1
        clear hL
        obtain ⟨f0, f1, f2, f3⟩ := hS.s
        go_simp
        exact ⟨⟨fun d hd => by injection hd with hd; subst hd; rfl, fun h => by cases h⟩, hS, ToE.refl⟩
    · as_aux_lemma =>
        intro a W hS hL
        obtain ⟨g, e5, h5⟩ := hL.1
        have e7 : a.tmps.getD 7 undef = .slice D dn dc := hL.2.1
        have hsz := hS.size
        refine lands_app0 bytesRow (.tmp 5) (.tmp 7) rfl e5 e7 h5 (hd.belowMono hS.bel hB) o1 e1 e2 hsz fun b k W' ho hb => ?_
        exact ⟨⟨fun d hd => by injection hd with hd; subst hd; exact ⟨b, k, rfl, ho⟩, fun h => by cases h⟩, hS.below hb, hS.e hb⟩
    · as_aux_lemma =>
        intro a W hS hL
        clear hL
        go_simp
        have hb : Below W.heap.size W (W.alloc (.cells #[] 3)) := (Below.refl _ _).alloc (Nat.le_refl _) _
        exact ⟨⟨fun d hd => by injection hd with hd; subst hd; exact ⟨_, rfl, made5 W hS.size _⟩, fun h => by cases h⟩, hS.below hb, hS.e hb⟩
    · as_aux_lemma =>
        intro a W hS hL
        have e1 : a.tmps.getD 1 undef = .pointer (some ⟨w.heap.size, 0, none⟩) := hL.1
        clear hL
        go_simp
        exact ⟨⟨fun d hd => by injection hd with hd; subst hd; rfl, fun h => by cases h⟩, hS, ToE.refl⟩
    · as_aux_lemma =>
        intro a W hS hL
        have e10 : a.tmps.getD 10 undef = .pointer (some ⟨w.heap.size, 2, none⟩) := hL.1
        clear hL
        obtain ⟨f0, f1, f2, f3⟩ := hS.s
        go_simp
        exact ⟨⟨fun d hd => by injection hd with hd; subst hd; rfl, fun h => by cases h⟩, hS, ToE.refl⟩
    · as_aux_lemma =>
        intro a W hS hL
        obtain ⟨g, e9, h9⟩ := hL.1
        have e11 : a.tmps.getD 11 undef = .slice C cn cc := hL.2.1
        have hsz := hS.size
        refine lands_app0 intsRow (.tmp 9) (.tmp 11) rfl e9 e11 h9 (hc.belowMono hS.bel hB) o2 e3 hcn hsz fun b k W' ho hb => ?_
        exact ⟨⟨fun d hd => by injection hd with hd; subst hd; exact ⟨b, k, rfl, ho⟩, fun h => by cases h⟩, hS.below hb, hS.e hb⟩
    · as_aux_lemma =>
        intro a W hS hL
        have e1 : a.tmps.getD 1 undef = .pointer (some ⟨w.heap.size, 0, none⟩) := hL.1
        clear hL
        go_simp
        exact ⟨⟨fun d hd => by injection hd with hd; subst hd; rfl, fun h => by cases h⟩, hS, ToE.refl⟩
    · as_aux_lemma =>
        intro a W hS hL
        have e13 : a.tmps.getD 13 undef = .pointer (some ⟨w.heap.size, 3, none⟩) := hL.1
        clear hL
        obtain ⟨f0, f1, f2, f3⟩ := hS.s
        go_simp
        exact ⟨⟨fun d hd => by injection hd with hd; subst hd; rfl, fun h => by cases h⟩, hS, ToE.refl⟩
    · as_aux_lemma =>
        intro a W hS hL
        have e4 : a.tmps.getD 4 undef = .int .i64 t := hL.1
        obtain ⟨b, c, e8, h8⟩ := hL.2.1
        obtain ⟨b', c', e12, h12⟩ := hL.2.2.1
        have e14 : a.tmps.getD 14 undef = .int .i64 at_ := hL.2.2.2.1
        clear hL
        rw [Array.getD_eq_getD_getElem?] at e4 e8 e12 e14
        go_simp
        exact ⟨⟨fun d hd => by injection hd with hd; subst hd; exact ⟨b, c, b', c', rfl, h8, h12⟩, fun h => by cases h⟩, hS, ToE.refl⟩
    · as_aux_lemma =>
        intro a W hS hL
        have e2 : a.tmps.getD 2 undef = .pointer (some ⟨w.heap.size + 1, 0, none⟩) := hL.1
        obtain ⟨b, c, b', c', e15, h8, h12⟩ := hL.2.1
        clear hL
        obtain ⟨u0, u1, u2, u3, k⟩ := hS.res
        have r0 : W.cell? ⟨w.heap.size + 1, 0, none⟩ = some u0 := k.cell 0
        have r1 : W.cell? ⟨w.heap.size + 1, 1, none⟩ = some u1 := k.cell 1
        have r2 : W.cell? ⟨w.heap.size + 1, 2, none⟩ = some u2 := k.cell 2
        have r3 : W.cell? ⟨w.heap.size + 1, 3, none⟩ = some u3 := k.cell 3
        have z0 := k.frozen 0
        have z1 := k.frozen 1
        have z2 := k.frozen 2
        have z3 := k.frozen 3
        rw [Array.getD_eq_getD_getElem?] at e15
        go_simp
        have kk : Keep (fun i => i = w.heap.size + 1) W ((((W.setCell ⟨w.heap.size + 1, 0, none⟩ (.int .i64 t)).setCell ⟨w.heap.size + 1, 1, none⟩ (.slice (some b) dn c)).setCell ⟨w.heap.size + 1, 2, none⟩ (.slice (some b') cn c')).setCell ⟨w.heap.size + 1, 3, none⟩ (.int .i64 at_)) :=
          ((((Keep.refl (fun i => i = w.heap.size + 1) W).setCell (p := ⟨w.heap.size + 1, 0, none⟩) (fun _ => rfl) _).setCell (p := ⟨w.heap.size + 1, 1, none⟩) (fun _ => rfl) _).setCell (p := ⟨w.heap.size + 1, 2, none⟩) (fun _ => rfl) _).setCell (p := ⟨w.heap.size + 1, 3, none⟩) (fun _ => rfl) _
        have kb := (((k.set_ 0 (.int .i64 t)).set_ 1 (.slice (some b) dn c)).set_ 2 (.slice (some b') cn c')).set_ 3 (.int .i64 at_)
        generalize ((((W.setCell ⟨w.heap.size + 1, 0, none⟩ (.int .i64 t)).setCell ⟨w.heap.size + 1, 1, none⟩ (.slice (some b) dn c)).setCell ⟨w.heap.size + 1, 2, none⟩ (.slice (some b') cn c')).setCell ⟨w.heap.size + 1, 3, none⟩ (.int .i64 at_)) = W' at *
        simp only [List.setIfInBounds_toArray, List.set_cons_zero, List.set_cons_succ] at kb
        have good : GoodF (w.heap.size + 1) t at_ dn cn dl cl W' := ⟨b, c, b', c', kb, keep_own h8 kk, keep_own h12 kk⟩
        exact ⟨⟨fun d hd => (nomatch hd), fun _ => good⟩, ⟨kk.bk hS.box (by omega), hS.bel.trans (kk.below hS.bel.size fun i hi => by omega), _, _, _, _, kb⟩, kk, .inr good⟩
  · intro a W hd hsz hT hF hS
    have e2 : a.tmps.getD 2 undef = .pointer (some ⟨w.heap.size + 1, 0, none⟩) := hT 2 (by simp)
    obtain ⟨b, c, b', c', k, q1, q2⟩ : GoodF (w.heap.size + 1) t at_ dn cn dl cl W := hF 13 _ rfl rfl
    have r0 : W.cell? ⟨w.heap.size + 1, 0, none⟩ = some (.int .i64 t) := k.cell 0
    have r1 : W.cell? ⟨w.heap.size + 1, 1, none⟩ = some (.slice (some b) dn c) := k.cell 1
    have r2 : W.cell? ⟨w.heap.size + 1, 2, none⟩ = some (.slice (some b') cn c') := k.cell 2
    have r3 : W.cell? ⟨w.heap.size + 1, 3, none⟩ = some (.int .i64 at_) := k.cell 3
    go_wp2
    refine bodyPost_ret (v := .agg #[.int .i64 t, .slice (some b) dn c, .slice (some b') cn c', .int .i64 at_]) ?_ hd ⟨_, _, rfl, own_mono q1 (by omega), own_mono q2 (by omega), hS.bel⟩
    rw [Array.getD_eq_getD_getElem?] at e2
    simp [results, Tryz.results21, go_sem, e2, r0, r1, r2, r3]
end Go.Proofs.YtllcecnkbndokaaGreatDoor
namespace Go.Proofs.YtllcecnkbndokaaGreatDoor
open Go.RowKit

def TabF (R : Nat) (u : Int) (n : Nat) (xs : List Value) : Value → World → Prop := fun v W => ∃ b c, v = .agg #[.slice (some b) n c, .int .i64 u] ∧ W.ownsRow (R + 1) 9 1 (.slice (some b) n c) n xs
def GoodT (R : Nat) (u : Int) (n : Nat) (xs : List Value) (W : World) : Prop := ∃ b c, Bk W R 34 #[.slice (some b) n c, .int .i64 u] ∧ W.ownsRow (R + 1) 9 1 (.slice (some b) n c) n xs
def ToET (R : Nat) (u : Int) (n : Nat) (xs : List Value) (W W' : World) : Prop := Keep (fun i => i = R) W W' ∧ (W'.heap[R]? = W.heap[R]? ∨ GoodT R u n xs W')
structure ToST (w : World) (u : Int) (D : Option Addr) (n c : Nat) (W : World) : Prop where
  box : Bk W w.heap.size 24 #[.slice D n c, .int .i64 u]
  bel : Below w.heap.size w W
  res : ∃ u0 u1, Bk W (w.heap.size + 1) 34 #[u0, u1]
section
variable {w : World} {R n c : Nat} {u : Int} {D : Option Addr} {xs : List Value} {W W' : World}
theorem ToET.of_below (hR : R < W.heap.size) (hb : Below W.heap.size W W') : ToET R u n xs W W' := ⟨Keep.of_below hb fun i hi h => by omega, .inl (hb.block R hR)⟩
theorem ToET.refl : ToET R u n xs W W := ⟨Keep.refl _ _, .inl rfl⟩
theorem stabT_made {e : TypeId} : Stable (ToET R u n xs) (MadeF R e) := fun _ _ _ hE h => by
  obtain ⟨g, rfl, ho⟩ := h
  exact ⟨g, rfl, keep_own ho hE.1⟩
theorem stabT_own {e : TypeId} {n' : Nat} {ys : List Value} : Stable (ToET R u n xs) (OwnF R e n' ys) := fun _ _ _ hE h => by
  obtain ⟨b, c, rfl, ho⟩ := h
  exact ⟨b, c, rfl, keep_own ho hE.1⟩
theorem stabT_tab : Stable (ToET R u n xs) (TabF R u n xs) := fun _ _ _ hE h => by
  obtain ⟨b, c, rfl, o1⟩ := h
  exact ⟨b, c, rfl, keep_own o1 hE.1⟩
theorem stabT_good : Stable (ToET R u n xs) (fun _ => GoodT R u n xs) := fun _ _ _ hE h => by
  rcases hE.2 with hh | hh
  · obtain ⟨b, c, k, o1⟩ := h
    exact ⟨b, c, by unfold Bk at *; rw [hh, k], keep_own o1 hE.1⟩
  · exact hh
theorem ToST.size (h : ToST w u D n c W) : w.heap.size + 2 ≤ W.heap.size := by
  obtain ⟨_, _, k⟩ := h.res
  exact k.lt
theorem ToST.below (h : ToST w u D n c W) (hb : Below W.heap.size W W') : ToST w u D n c W' := by
  obtain ⟨u0, u1, k⟩ := h.res
  exact ⟨h.box.below hb h.box.lt, h.bel.trans (hb.mono h.bel.size), u0, u1, k.below hb k.lt⟩
theorem ToST.e (h : ToST w u D n c W) (hb : Below W.heap.size W W') : ToET (w.heap.size + 1) u n xs W W' := ToET.of_below (by have := h.size; omega) hb
end

set_option maxHeartbeats 4000000 in
set_option maxRecDepth 100000 in
theorem toTab_any {w : World} {B n c : Nat} {A : Option Addr} {L : List (List UInt8)} {u : Int} (h : Rd w B 1 A n (L.map tv)) (hB : B ≤ w.heap.size) (hn : n ≤ 1000000) :
    Calls Tryz.prog 8 #[.agg #[.slice A n c, .int .i64 u]] w fun e w' => ∃ Ax cx, e = .returned (.agg #[.slice Ax n cx, .int .i64 u]) ∧ Rd w' w'.heap.size 1 Ax n (L.map tv) ∧ Below w.heap.size w w' := by
  have o1 : ∀ x ∈ L.map tv, x.oneCell' = true := by
    intro x hx
    obtain ⟨l, _, rfl⟩ := List.mem_map.1 hx
    rfl
  generalize L.map tv = xs at *
  have e1 : n ≤ maxLen := by unfold maxLen; omega
  have e2 : n * 16 ≤ 140737488355328 := by omega
  go_enter Tryz.func8, Tryz.ntmps8
  go_wp2_with fail
  have I0 : ToST w u A n c ((w.alloc (.cells #[.slice A n c, .int .i64 u] 24)).alloc (.cells #[.slice none 0 0, .int .i64 0] 34)) :=
    ⟨(Bk.new w _ _).alloc _, ((Below.refl _ _).alloc (Nat.le_refl _) _).alloc (by simp) _, _, _, by simpa using Bk.new (w.alloc _) 34 _⟩
  refine wp_region_tab (S := ToST w u A n c) (E := ToET (w.heap.size + 1) u n xs) [(1, Is (.pointer (some ⟨w.heap.size, 0, none⟩))), (2, Is (.pointer (some ⟨w.heap.size + 1, 0, none⟩)))]
    [(3, MadeF (w.heap.size + 1) 9), (4, Is (.pointer (some ⟨w.heap.size, 0, none⟩))), (5, Is (.slice A n c)), (6, OwnF (w.heap.size + 1) 9 n xs), (7, Is (.pointer (some ⟨w.heap.size, 1, none⟩))), (8, Is (.int .i64 u)), (9, TabF (w.heap.size + 1) u n xs), (17, fun _ => GoodT (w.heap.size + 1) u n xs)]
    [([], none), ([1], none), ([4], none), ([3, 5], none), ([1], none), ([7], none), ([6, 8], none), ([2, 9], none)]
    (by as_aux_lemma => kernel_rfl) ?_ ?_ ?_ ⟨stable_is _ _, stable_is _ _, stabT_made, stable_is _ _, stable_is _ _, stabT_own, stable_is _ _, stable_is _ _, stabT_tab, stabT_good, trivial⟩ ?_ (I0.below (Below.refl _ _).drew) ?_ ?_
  · as_aux_lemma => kernel_rfl
  · as_aux_lemma => kernel_rfl
  · as_aux_lemma => kernel_rfl
  · exact ⟨rfl, by simp [Is], trivial⟩
  · clear I0
    refine ⟨?_, ?_, ?_, ?_, ?_, ?_, ?_, ?_, trivial⟩
    · as_aux_lemma =>
        intro a W hS hL
        clear hL
        go_simp
        have hb : Below W.heap.size W (W.alloc (.cells #[] 9)) := (Below.refl _ _).alloc (Nat.le_refl _) _
        exact ⟨⟨fun d hd => by injection hd with hd; subst hd; exact ⟨_, rfl, made5 W hS.size _⟩, fun h => by cases h⟩, hS.below hb, hS.e hb⟩
    · as_aux_lemma =>
        intro a W hS hL
        have e1 : a.tmps.getD 1 undef = .pointer (some ⟨w.heap.size, 0, none⟩) := hL.1
        clear hL
        go_simp
        exact ⟨⟨fun d hd => by injection hd with hd; subst hd; rfl, fun h => by cases h⟩, hS, ToET.refl⟩
    · as_aux_lemma =>
        intro a W hS hL
        have e4 : a.tmps.getD 4 undef = .pointer (some ⟨w.heap.size, 0, none⟩) := hL.1
        clear hL
        have f0 := hS.box.cell 0
        go_simp
        exact ⟨⟨fun d hd => by injection hd with hd; subst hd; rfl, fun h => by cases h⟩, hS, ToET.refl⟩
    · as_aux_lemma =>
        intro a W hS hL
        obtain ⟨g, e3, h3⟩ := hL.1
        have e5 : a.tmps.getD 5 undef = .slice A n c := hL.2.1
        have hsz := hS.size
        refine lands_app0 strsRow (.tmp 3) (.tmp 5) rfl e3 e5 h3 (h.belowMono hS.bel hB) o1 e1 e2 hsz fun b k W' ho hb => ?_
        exact ⟨⟨fun d hd => by injection hd with hd; subst hd; exact ⟨b, k, rfl, ho⟩, fun h => by cases h⟩, hS.below hb, hS.e hb⟩
    · as_aux_lemma =>
        intro a W hS hL
        have e1 : a.tmps.getD 1 undef = .pointer (some ⟨w.heap.size, 0, none⟩) := hL.1
        clear hL
        go_simp
        exact ⟨⟨fun d hd => by injection hd with hd; subst hd; rfl, fun h => by cases h⟩, hS, ToET.refl⟩
    · as_aux_lemma =>
        intro a W hS hL
        have e7 : a.tmps.getD 7 undef = .pointer (some ⟨w.heap.size, 1, none⟩) := hL.1
        clear hL
        have f1 := hS.box.cell 1
        go_simp
        exact ⟨⟨fun d hd => by injection hd with hd; subst hd; rfl, fun h => by cases h⟩, hS, ToET.refl⟩
    · as_aux_lemma =>
        intro a W hS hL
        obtain ⟨b, c, e6, h6⟩ := hL.1
        have e8 : a.tmps.getD 8 undef = .int .i64 u := hL.2.1
        clear hL
        rw [Array.getD_eq_getD_getElem?] at e6 e8
        go_simp
        exact ⟨⟨fun d hd => by injection hd with hd; subst hd; exact ⟨b, c, rfl, h6⟩, fun h => by cases h⟩, hS, ToET.refl⟩
    · as_aux_lemma =>
        intro a W hS hL
        have e2 : a.tmps.getD 2 undef = .pointer (some ⟨w.heap.size + 1, 0, none⟩) := hL.1
        obtain ⟨b, c, e9, h9⟩ := hL.2.1
        clear hL
        obtain ⟨u0, u1, k⟩ := hS.res
        have r0 : W.cell? ⟨w.heap.size + 1, 0, none⟩ = some u0 := k.cell 0
        have r1 : W.cell? ⟨w.heap.size + 1, 1, none⟩ = some u1 := k.cell 1
        have z0 := k.frozen 0
        have z1 := k.frozen 1
        rw [Array.getD_eq_getD_getElem?] at e9
        go_simp
        have kk : Keep (fun i => i = w.heap.size + 1) W ((W.setCell ⟨w.heap.size + 1, 0, none⟩ (.slice (some b) n c)).setCell ⟨w.heap.size + 1, 1, none⟩ (.int .i64 u)) :=
          ((Keep.refl (fun i => i = w.heap.size + 1) W).setCell (p := ⟨w.heap.size + 1, 0, none⟩) (fun _ => rfl) _).setCell (p := ⟨w.heap.size + 1, 1, none⟩) (fun _ => rfl) _
        have kb := (k.set_ 0 (.slice (some b) n c)).set_ 1 (.int .i64 u)
        generalize ((W.setCell ⟨w.heap.size + 1, 0, none⟩ (.slice (some b) n c)).setCell ⟨w.heap.size + 1, 1, none⟩ (.int .i64 u)) = W' at *
        simp only [List.setIfInBounds_toArray, List.set_cons_zero, List.set_cons_succ] at kb
        have good : GoodT (w.heap.size + 1) u n xs W' := ⟨b, c, kb, keep_own h9 kk⟩
        exact ⟨⟨fun d hd => (nomatch hd), fun _ => good⟩, ⟨kk.bk hS.box (by omega), hS.bel.trans (kk.below hS.bel.size fun i hi => by omega), _, _, kb⟩, kk, .inr good⟩
  · intro a W hd hsz hT hF hS
    have e2 : a.tmps.getD 2 undef = .pointer (some ⟨w.heap.size + 1, 0, none⟩) := hT 2 (by simp)
    obtain ⟨b, c, k, q1⟩ : GoodT (w.heap.size + 1) u n xs W := hF 7 _ rfl rfl
    have r0 : W.cell? ⟨w.heap.size + 1, 0, none⟩ = some (.slice (some b) n c) := k.cell 0
    have r1 : W.cell? ⟨w.heap.size + 1, 1, none⟩ = some (.int .i64 u) := k.cell 1
    obtain ⟨A2, c2, e, -, -, q2⟩ := own_form q1
    injection e with ea eb ec
    subst ea
    go_wp2
    refine bodyPost_ret (v := .agg #[.slice (some b) n c, .int .i64 u]) ?_ hd ⟨_, ⟨_, rfl⟩, q2, hS.bel⟩
    rw [Array.getD_eq_getD_getElem?] at e2
    simp [results, Tryz.results8, go_sem, e2, r0, r1]
end Go.Proofs.YtllcecnkbndokaaGreatDoor
