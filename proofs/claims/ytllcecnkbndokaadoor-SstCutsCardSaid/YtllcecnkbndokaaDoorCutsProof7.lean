/- SstCuts: however the table's record is cut ahead of texts, it is the same table: for whatever table and bytes the law returns true, and they read as before. No condition but the form's own. -/
import Derived.Test.YtllcecnkbndokaaDoorCards
import Derived.Test.YtllcecnkbndokaaDoorTie
import Derived.Test.YtllcecnkbndokaaDoorValid
import Derived.WalkKit
import Derived.ProofKit
import Derived.OpenShut
import Derived.ShutString
import Derived.Deep.DeepHandedRow
import Derived.Lib.SmallJoins
import Derived.Lib.LaidU8T
import Derived.Lib.LaidIn
import Derived.PinnedBridge
import Derived.ChangeOld
import Derived.SliceStrings
import Derived.Below
import Derived.Test.YtllcecnkbndokaaDoorSCutsLaw
import Derived.Test.YtllcecnkbndokaaDoorArg
namespace Go.Proofs.YtllcecnkbndokaaDoor.sstCuts
open Go.ChangeShapes Go.WideShapes Go.ChangeAt Go.RowKit Go.Joins
open Go.ChangeMaps (open_string shut_string)
set_option linter.unusedVariables false

theorem own : ownKnob Tryd.prog.godebug = none := by kernel_rfl
theorem laidOut : laidOutB Tryd.prog = true := by kernel_rfl
set_option maxRecDepth 100000 in
theorem accept_eq : (Rows.laid_unicode_utf8_acceptRanges : DataW Unit) = Lib.acceptData := by kernel_rfl
/-- What the row lists is what the tables' contract wants. -/
theorem tabs_of {W : World} (hL : laidMet Tryd.prog Rows.sstCutsRow.laid W) : Tabs W := by
  have h1 := Lib.laidMet.reads hL (.head _)
  have h2 := Lib.laidMet.reads hL (.tail _ (.head _))
  refine utf8Tabs_of_readsT (U8Types.of196 Tryd.laysV) ⟨by kernel_rfl, by kernel_rfl, by kernel_rfl, by kernel_rfl, by kernel_rfl, by kernel_rfl, by kernel_rfl⟩ ?_ ?_
  · rw [← Pinned.utf8First_eq]; exact h2
  · rw [← accept_eq]; exact h1
theorem strs_rdz {W : World} {x : Addr} {l : Nat} {ss : List ByteArray} (hz : l ≤ ss.length) (hcell : ∀ i, i < ss.length → W.cell? (x.add i) = some (.string (ss.getD i ByteArray.empty))) (hsz : ∀ s ∈ ss.take l, s.size ≤ 1000000000000000) :
    ∃ L : List (List UInt8), Rd W W.heap.size 1 (some x) l (L.map tv) ∧ ∀ b ∈ L, b.length ≤ 1000000000000000 := by
  refine ⟨(ss.take l).map (·.data.toList), ⟨?_, fun hn => ⟨x, rfl, ?_, fun j u hu => ?_⟩⟩, ?_⟩
  · rw [List.length_map, List.length_map, List.length_take]; omega
  · have h0 := hcell 0 (by omega)
    have e : x.add 0 = x := rfl
    rw [e] at h0
    rcases Nat.lt_or_ge x.block W.heap.size with h | h
    · exact h
    · simp [World.cell?, Array.getElem?_eq_none h] at h0
  · have hj : j < l := by
      have := (List.getElem?_eq_some_iff.1 hu).1
      rw [List.length_map, List.length_map, List.length_take] at this
      omega
    rw [hcell j (by omega)]
    rw [List.getElem?_map, List.getElem?_map, List.getElem?_take, if_pos hj, List.getElem?_eq_getElem (by omega)] at hu
    rw [List.getD_eq_getElem?_getD, List.getElem?_eq_getElem (by omega)]
    have hu' : tv (ss[j]'(by omega)).data.toList = u := by simpa using hu
    rw [tv_str] at hu'
    rw [← hu']
    rfl
  · intro b hb
    obtain ⟨s, hs, rfl⟩ := List.mem_map.1 hb
    have := hsz s hs
    simpa using this
theorem weigh_strs {H : Type} {P : Program} {e : TypeId} : ∀ (a : List ByteArray), (DataW.weightsAll P e (strs a : List (DataW H))).all (· ≤ reachBytes) = true → ∀ s ∈ a, s.size ≤ reachBytes
  | [], _, s, hs => by cases hs
  | x :: a, h, s, hs => by
    have hh : (DataW.weightsAll P e ((.lit (.string x.data.toList) : DataW H) :: strs a)).all (· ≤ reachBytes) = true := h
    rw [DataW.weightsAll, DataW.weights, List.all_append, Bool.and_eq_true] at hh
    rcases List.mem_cons.1 hs with rfl | hs
    · simpa using hh.1
    · exact weigh_strs a hh.2 s hs
theorem reach_strs {H : Type} {P : Program} {t e : TypeId} {ts : List TypeId} {r : List (DataW H)} {a b : List ByteArray} (hu : P.underlying t = some (.slice e)) (h : (DataW.weightsEach P (t :: ts) ((.slice (strs a) (strs b) : DataW H) :: r)).all (· ≤ reachBytes) = true) :
    ∀ s ∈ a, s.size ≤ 1000000000000000 := by
  rw [DataW.weightsEach, DataW.weights, hu] at h
  simp only [List.all_append, List.all_cons, Bool.and_eq_true] at h
  intro s hs
  have := weigh_strs a h.1.2.1 s hs
  unfold reachBytes at this
  omega
theorem cellsTab : Tryd.prog.cellsOf 31 = 2 := by kernel_rfl
theorem reach_tab {H : Type} {P : Program} {t e : TypeId} {ts : List TypeId} {r : List (DataW H)} {a b : List ByteArray} {f0 f1 : Field} {d : DataW H} (hs : P.underlying t = some (.struct #[f0, f1])) (hu : P.underlying f0.type = some (.slice e)) (h : (DataW.weightsEach P (t :: ts) ((.agg [.slice (strs a) (strs b), d] : DataW H) :: r)).all (· ≤ reachBytes) = true) :
    ∀ s ∈ a, s.size ≤ 1000000000000000 := by
  rw [DataW.weightsEach, DataW.weights, hs, List.all_append, Bool.and_eq_true] at h
  exact reach_strs hu h.1

theorem walk (a0 : Option Addr) (len0 cap0 : Nat) (L0 : List (List UInt8)) (u0 : Int) (a1 : Option Addr) (len1 cap1 : Nat) (b1 : List UInt8) (w : World) (HT : Tabs w) (w0 : Rd w w.heap.size 1 a0 len0 (L0.map tv)) (z0 : ∀ l ∈ L0, l.length ≤ 1000000000000000) (hu0 : (Lit.int .i64 u0).wf = true) (w1 : Rd w w.heap.size 1 a1 len1 (b1.map bv)) :
    Calls Tryd.prog 4 #[.agg #[.slice a0 len0 cap0, .int .i64 u0], .slice a1 len1 cap1] w fun e w' => e = .returned (.bool true) ∧ Below w.heap.size w w' := by
  exact sCutsLaw_any (val_of HT) w0 w1 (Nat.le_refl _) z0

set_option maxRecDepth 100000 in
/-- What the walk gives, for every argument. -/
theorem contract (H : Type) (enc : TypeId × Value → H) (W : World) (base : Nat) (args : Array Value) (ds gs : List (DataW H)) (before : List MemPlace) (HT : Tabs W)
    (hval : ∀ (j : Nat) t v, Tryd.f4.params[j]? = some t → args[j]? = some v → Value.okWide Tryd.prog W .any base t v)
    (hW : DataW.Whole enc Tryd.prog Tryd.f4.params.toList Rows.sstCutsSpec.vars false W args.toList ds gs before)
    (hSz : (DataW.weightsEach Tryd.prog (Tryd.f4.params.toList ++ (OpenSpec.ofChange Rows.sstCutsSpec).bare.plain.varTypes Tryd.prog) (ds ++ gs)).all (· ≤ reachBytes) = true) :
    Calls Tryd.prog 4 args W fun e W' => ∃ v, e = .returned v ∧ Rows.sstCutsSpec.post enc Tryd.prog Tryd.f4 false true false false W args v W' := by
  have hW' := hW
  obtain ⟨p, q, hA0, hV, rfl, hfz, hnd⟩ := hW
  have hA : DataW.TrodAll enc Tryd.prog W 0 (fun _ => true) true Tryd.f4.params.toList args.toList ds p := hA0
  rw [Tryd.params4] at hA hval hSz
  obtain ⟨v0, vs0, d0, ds0, p0, q0, hargs, rfl, rfl, h0, r0⟩ := trodAll_cons hA
  obtain ⟨v1, vs1, d1, ds1, p1, q1, rfl, rfl, rfl, h1, r1⟩ := trodAll_cons r0
  obtain ⟨rfl, rfl, rfl⟩ := trodAll_nil r1
  obtain rfl : args = #[v0, v1] := by cases args; simp_all
  obtain ⟨rfl, rfl⟩ := trodVars_none hV
  have k0 := h0
  have lt0 : ∀ x ∈ p0, x.block < W.heap.size := by obtain ⟨m, hm⟩ := k0; exact DataW.trod_lt m _ _ _ hm
  obtain ⟨vt0, vu0, yt0, yu0, m0, rfl, rfl, rfl, ht0, hn0⟩ := open_agg2 Tryd.underlying31 (by kernel_rfl) cellsTab (hval 0 31 v0 rfl rfl) h0
  obtain ⟨u0, e0, he0, hu0⟩ := DataW.trod_int Tryd.underlying2 hn0
  simp at e0
  subst e0
  obtain ⟨a0, len0, cap0, L0, rfl, w0, z0⟩ : ∃ (a : Option Addr) (l c : Nat) (L : List (List UInt8)), vt0 = .slice a l c ∧ Rd W W.heap.size 1 a l (L.map tv) ∧ ∀ l ∈ L, l.length ≤ 1000000000000000 := by
    rcases open_strings Tryd.underlying22 Tryd.underlying9 (by kernel_rfl) ht0 with ⟨hcs, _⟩ | ⟨x, l, c, ss, hcs, _, hl, hm, hz, hx, hcell, hsz⟩
    · injection hcs with hcs
      exact ⟨none, 0, 0, [], hcs, Rd.nil _ _ _ _, by intro l hl; cases hl⟩
    · injection hcs with hcs
      have hx' : yt0.1 = .slice (strs (ss.take l)) (strs (ss.drop l)) := by rw [hx]
      rw [hx'] at hSz
      obtain ⟨L, h1, h2⟩ := strs_rdz (x := x) (l := l) (ss := ss) (by
        have : l ≤ (if (fun _ => true : Nat → Bool) x.block then c else l) := by simpa using hl
        rw [hz]; exact this) hcell (reach_tab Tryd.underlying31 Tryd.underlying22 hSz)
      exact ⟨_, l, c, L, hcs, h1, h2⟩
  obtain ⟨a1, len1, cap1, rfl⟩ := okWide_slice Tryd.underlying38 (hval 1 38 v1 rfl rfl)
  have k1 := h1
  have lt1 : ∀ x ∈ p1, x.block < W.heap.size := by obtain ⟨m, hm⟩ := k1; exact DataW.trod_lt m _ _ _ hm
  obtain ⟨b1, w1⟩ : ∃ bs : List UInt8, Rd W W.heap.size 1 a1 len1 (bs.map bv) := by
    obtain ⟨fuel, hf⟩ := h1
    rcases open_ints Tryd.underlying38 Tryd.underlying5 (by kernel_rfl) hf with ⟨hcs, _⟩ | ⟨x, l, c, zs, hcs, _, hl, hm, hz, _, hcell, hwz⟩
    · simp [Value.cells] at hcs
      obtain ⟨rfl, rfl, rfl⟩ := hcs
      exact ⟨[], Rd.nil _ _ _ _⟩
    · simp [Value.cells] at hcs
      obtain ⟨rfl, rfl, rfl⟩ := hcs
      exact (isRow_bytes (.inr ⟨_, rfl, hl, hm, by simpa using hz, hcell, hwz⟩)).2.2
  clear hA0
  simp only [List.append_nil] at hW'
  refine (walk a0 len0 cap0 L0 u0 a1 len1 cap1 b1 W HT w0 z0 hu0 w1).mono fun e W' ⟨he, bel⟩ => ?_
  subst he
  exact ⟨_, rfl, _, _, _, [], _, [], hW', trodAll_mk1 (shut_bool Tryd.underlying4 _), (trodAll_cons_mk (Below.trod laidOut (by kernel_rfl) (of_decide_eq_true (by kernel_rfl)) k0 bel lt0) (trodAll_cons_mk (Below.trod laidOut (by kernel_rfl) (of_decide_eq_true (by kernel_rfl)) k1 bel lt1) trodAll_mk0)), rfl, bel.frame _, fun h => by cases h⟩

/-- A table's cells put into its block. -/
def setTab (h : Array Obj) (g : Nat) (cs : Array Value) : Array Obj := h.modify g fun o => match o with
  | .cells _ t frozen => .cells cs t frozen
  | o => o
/-- A world for the witness: the settled one, the tables as their initialisers lay them. -/
noncomputable def laidWorld (os : Os) : World :=
  { World.holding Tryd.prog os ⟨#[], #[], []⟩ with heap := setTab (setTab (World.holding Tryd.prog os ⟨#[], #[], []⟩).heap 0 (Lib.firstTab.map fun z => Value.int .u8 z).toArray) 1 ((List.range 16).flatMap fun i => [Value.int .u8 (Lib.accLo i), Value.int .u8 (Lib.accHi i)]).toArray }
set_option maxRecDepth 100000 in
theorem laid_met (os : Os) : laidMet Tryd.prog Rows.sstCutsRow.laid ((laidWorld os).forCall (fun _ _ => 0) ⟨#[], #[.agg #[.slice none 0 0, .int .i64 0], .slice none 0 0], []⟩).memory :=
  laidMet_of_run' 8 (by kernel_rfl) (by kernel_rfl)
theorem reads (os : Os) {H : Type} (enc : TypeId × Value → H) : ∃ places, DataW.whole enc Tryd.prog ((laidWorld os).forCall (fun _ _ => 0) ⟨#[], #[.agg #[.slice none 0 0, .int .i64 0], .slice none 0 0], []⟩).memory Tryd.f4.params.toList Rows.sstCutsSpec.vars false (#[.agg #[.slice none 0 0, .int .i64 0], .slice none 0 0] : Array Value).toList 8 = some ([.agg [.nil, .lit (.int .i64 0)], .nil], [], places) :=
  ⟨[], by kernel_rfl⟩

set_option maxRecDepth 100000 in
theorem lifted (os : Os) (started : os.Started) (H : Type) (enc : TypeId × Value → H) (F : Stop.Interp) :
    ReturnsInHanded {} Tryd.checked os 4 .any ((OpenSpec.ofChange Rows.sstCutsSpec).preRow enc Tryd.prog Tryd.f4 Rows.sstCutsRow.domain false Rows.sstCutsRow.laid) (((OpenSpec.ofChange Rows.sstCutsSpec).at F).post enc Tryd.prog Tryd.f4 false true false false) := by
  obtain ⟨places, hx⟩ := reads os enc
  refine returnsInHanded_of_row (C := Tryd.checked) (s := OpenSpec.ofChange Rows.sstCutsSpec) own started (by kernel_rfl) Tryd.func4
    (witness_row_at (enc := enc) (C := Tryd.checked) false (laidWorld os) #[.agg #[.slice none 0 0, .int .i64 0], .slice none 0 0] rfl (by kernel_rfl) (by kernel_rfl) (by kernel_rfl)
      (OpenSpec.preRow_of_cond 8 hx (by kernel_rfl) (fun k hk => by cases hk) (by kernel_rfl) (laid_met os))) ?_
  intro W base args ds gs before hval hW _ _ hSz hL _ _
  exact contract H enc W base args ds gs before (tabs_of hL) hval hW hSz

theorem said : Rows.SstCutsSaid :=
  OpenClaim.holds_of_cond 4 Tryd.f4 rfl rfl rfl rfl rfl rfl rfl ⟨rfl, rfl, rfl, rfl, rfl⟩ rfl rfl rfl rfl rfl (by kernel_rfl) Tryd.func4 (by kernel_rfl)
    (of_decide_eq_true (by kernel_rfl)) (by unfold Func.isWrapper; first | (rw [if_pos (by decide +kernel)]; kernel_rfl) | (rw [if_neg (by decide +kernel)]; exact ⟨rfl, rfl⟩))
    (fun os started H enc _ F => by rw [OpenClaim.pre_eq_preRow]; exact lifted os started H enc F)

/-- No parameter wants a stand-in; the program's own looks are off. -/
theorem plain (f : FuncId) (fn : Func) (hf : Tryd.pinned.checked.prog.funcNamed "cashbook/cashbooklaw7.SstCuts" = some f) (hfn : Tryd.pinned.checked.prog.funcs[f]? = some fn) :
    false = Tryd.pinned.checked.prog.looks [] ∧ ∀ (j : Nat) t, fn.params[j]? = some t → Tryd.pinned.checked.prog.wantsStandIn t = false := by
  obtain rfl : f = 4 := Option.some.inj ((show Tryd.prog.funcNamed "cashbook/cashbooklaw7.SstCuts" = some 4 by kernel_rfl).symm.trans hf) |>.symm
  obtain rfl : fn = Tryd.f4 := (Option.some.inj (Tryd.func4.symm.trans hfn)).symm
  refine ⟨by kernel_rfl, fun j t ht => ?_⟩
  rw [Tryd.params4] at ht
  have hm : t ∈ [31, 38] := by simpa using Array.mem_of_getElem? ht
  have hall : ([31, 38].all fun u => !Tryd.prog.wantsStandIn u) = true := by kernel_rfl
  exact (show Tryd.prog.wantsStandIn t = false by simpa using List.all_eq_true.1 hall t hm)

theorem card : Rows.SstCutsCardSaid :=
  Claim7.holds_tied_plain_at .later [] _ _ _ _ said (fun _ h => by cases h) (by kernel_rfl) (fun _ h => by cases h) sstCuts_row_tie rfl ⟨rfl, rfl⟩ (by kernel_rfl) rfl plain (by kernel_rfl)
#print axioms card
end Go.Proofs.YtllcecnkbndokaaDoor.sstCuts
