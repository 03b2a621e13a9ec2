/- SstWrites: any table as both records: for whatever table the law returns true, and it reads as before. No condition but the form's own. -/
import Derived.Test.YtllcecnkbndokaaGreatDoorCards
import Derived.Test.YtllcecnkbndokaaGreatDoorTie
import Derived.Test.YtllcecnkbndokaaGreatDoorValid
import Derived.WalkKit
import Derived.ProofKit
import Derived.OpenShut
import Derived.ShutString
import Derived.Deep.DeepHandedRow
import Derived.Lib.SmallJoins
import Derived.Lib.LaidU8T
import Derived.Lib.LaidIn
import Derived.PinnedBridge
import Derived.ChangeOld
import Derived.SliceStrings
import Derived.Below
import Derived.Test.YtllcecnkbndokaaGreatDoorSWritesLaw
namespace Go.Proofs.YtllcecnkbndokaaGreatDoor.sstWrites
open Go.ChangeShapes Go.WideShapes Go.ChangeAt Go.RowKit Go.Joins
open Go.ChangeMaps (open_string shut_string)
set_option linter.unusedVariables false

theorem own : ownKnob Tryz.prog.godebug = none := by kernel_rfl
theorem laidOut : laidOutB Tryz.prog = true := by kernel_rfl
set_option maxRecDepth 100000 in
theorem accept_eq : (Rows.laid_unicode_utf8_acceptRanges : DataW Unit) = Lib.acceptData := by kernel_rfl
/-- What the row lists is what the tables' contract wants. -/
theorem tabs_of {W : World} (hL : laidMet Tryz.prog Rows.sstWritesRow.laid W) : Tabs W := by
  have h1 := Lib.laidMet.reads hL (.head _)
  have h2 := Lib.laidMet.reads hL (.tail _ (.head _))
  refine utf8Tabs_of_readsT (U8Types.of196 Tryz.laysV) ⟨by kernel_rfl, by kernel_rfl, by kernel_rfl, by kernel_rfl, by kernel_rfl, by kernel_rfl, by kernel_rfl⟩ ?_ ?_
  · rw [← Pinned.utf8First_eq]; exact h2
  · rw [← accept_eq]; exact h1
theorem strs_rdz {W : World} {x : Addr} {l : Nat} {ss : List ByteArray} (hz : l ≤ ss.length) (hcell : ∀ i, i < ss.length → W.cell? (x.add i) = some (.string (ss.getD i ByteArray.empty))) (hsz : ∀ s ∈ ss.take l, s.size ≤ 1000000000000000) :
    ∃ L : List (List UInt8), Rd W W.heap.size 1 (some x) l (L.map tv) ∧ ∀ b ∈ L, b.length ≤ 1000000000000000 := by
  refine ⟨(ss.take l).map (·.data.toList), ⟨?_, fun hn => ⟨x, rfl, ?_, fun j u hu => ?_⟩⟩, ?_⟩
  · rw [List.length_map, List.length_map, List.length_take]; omega
  · have h0 := hcell 0 (by omega)
    have e : x.add 0 = x := rfl
    rw [e] at h0
    rcases Nat.lt_or_ge x.block W.heap.size with h | h
    · exact h
    · simp [World.cell?, Array.getElem?_eq_none h] at h0
  · have hj : j < l := by
      have := (List.getElem?_eq_some_iff.1 hu).1
      rw [List.length_map, List.length_map, List.length_take] at this
      omega
    rw [hcell j (by omega)]
    rw [List.getElem?_map, List.getElem?_map, List.getElem?_take, if_pos hj, List.getElem?_eq_getElem (by omega)] at hu
    rw [List.getD_eq_getElem?_getD, List.getElem?_eq_getElem (by omega)]
    have hu' : tv (ss[j]'(by omega)).data.toList = u := by simpa using hu
    rw [tv_str] at hu'
    rw [← hu']
    rfl
  · intro b hb
    obtain ⟨s, hs, rfl⟩ := List.mem_map.1 hb
    have := hsz s hs
    simpa using this
theorem weigh_strs {H : Type} {P : Program} {e : TypeId} : ∀ (a : List ByteArray), (DataW.weightsAll P e (strs a : List (DataW H))).all (· ≤ reachBytes) = true → ∀ s ∈ a, s.size ≤ reachBytes
  | [], _, s, hs => by cases hs
  | x :: a, h, s, hs => by
    have hh : (DataW.weightsAll P e ((.lit (.string x.data.toList) : DataW H) :: strs a)).all (· ≤ reachBytes) = true := h
    rw [DataW.weightsAll, DataW.weights, List.all_append, Bool.and_eq_true] at hh
    rcases List.mem_cons.1 hs with rfl | hs
    · simpa using hh.1
    · exact weigh_strs a hh.2 s hs
theorem reach_strs {H : Type} {P : Program} {t e : TypeId} {ts : List TypeId} {r : List (DataW H)} {a b : List ByteArray} (hu : P.underlying t = some (.slice e)) (h : (DataW.weightsEach P (t :: ts) ((.slice (strs a) (strs b) : DataW H) :: r)).all (· ≤ reachBytes) = true) :
    ∀ s ∈ a, s.size ≤ 1000000000000000 := by
  rw [DataW.weightsEach, DataW.weights, hu] at h
  simp only [List.all_append, List.all_cons, Bool.and_eq_true] at h
  intro s hs
  have := weigh_strs a h.1.2.1 s hs
  unfold reachBytes at this
  omega
theorem cellsTab : Tryz.prog.cellsOf 24 = 2 := by kernel_rfl
theorem reach_tab {H : Type} {P : Program} {t e : TypeId} {ts : List TypeId} {r : List (DataW H)} {a b : List ByteArray} {f0 f1 : Field} {d : DataW H} (hs : P.underlying t = some (.struct #[f0, f1])) (hu : P.underlying f0.type = some (.slice e)) (h : (DataW.weightsEach P (t :: ts) ((.agg [.slice (strs a) (strs b), d] : DataW H) :: r)).all (· ≤ reachBytes) = true) :
    ∀ s ∈ a, s.size ≤ 1000000000000000 := by
  rw [DataW.weightsEach, DataW.weights, hs, List.all_append, Bool.and_eq_true] at h
  exact reach_strs hu h.1

theorem walk (a0 : Option Addr) (len0 cap0 : Nat) (L0 : List (List UInt8)) (u0 : Int) (w : World) (HT : Tabs w) (w0 : Rd w w.heap.size 1 a0 len0 (L0.map tv)) (z0 : ∀ l ∈ L0, l.length ≤ 1000000000000000) (hu0 : (Lit.int .i64 u0).wf = true) :
    Calls Tryz.prog 3 #[.agg #[.slice a0 len0 cap0, .int .i64 u0]] w fun e w' => e = .returned (.bool true) ∧ Below w.heap.size w w' := by
  exact sWritesLaw_any (val_of HT) w0 (Nat.le_refl _) z0

set_option maxRecDepth 100000 in
/-- What the walk gives, for every argument. -/
theorem contract (H : Type) (enc : TypeId × Value → H) (W : World) (base : Nat) (args : Array Value) (ds gs : List (DataW H)) (before : List MemPlace) (HT : Tabs W)
    (hval : ∀ (j : Nat) t v, Tryz.f3.params[j]? = some t → args[j]? = some v → Value.okWide Tryz.prog W .any base t v)
    (hW : DataW.Whole enc Tryz.prog Tryz.f3.params.toList Rows.sstWritesSpec.vars false W args.toList ds gs before)
    (hSz : (DataW.weightsEach Tryz.prog (Tryz.f3.params.toList ++ (OpenSpec.ofChange Rows.sstWritesSpec).bare.plain.varTypes Tryz.prog) (ds ++ gs)).all (· ≤ reachBytes) = true) :
    Calls Tryz.prog 3 args W fun e W' => ∃ v, e = .returned v ∧ Rows.sstWritesSpec.post enc Tryz.prog Tryz.f3 false true false false W args v W' := by
  have hW' := hW
  obtain ⟨p, q, hA0, hV, rfl, hfz, hnd⟩ := hW
  have hA : DataW.TrodAll enc Tryz.prog W 0 (fun _ => true) true Tryz.f3.params.toList args.toList ds p := hA0
  rw [Tryz.params3] at hA hval hSz
  obtain ⟨v0, vs0, d0, ds0, p0, q0, hargs, rfl, rfl, h0, r0⟩ := trodAll_cons hA
  obtain ⟨rfl, rfl, rfl⟩ := trodAll_nil r0
  obtain rfl : args = #[v0] := by cases args; simp_all
  obtain ⟨rfl, rfl⟩ := trodVars_none hV
  have k0 := h0
  have lt0 : ∀ x ∈ p0, x.block < W.heap.size := by obtain ⟨m, hm⟩ := k0; exact DataW.trod_lt m _ _ _ hm
  obtain ⟨vt0, vu0, yt0, yu0, m0, rfl, rfl, rfl, ht0, hn0⟩ := open_agg2 Tryz.underlying24 (by kernel_rfl) cellsTab (hval 0 24 v0 rfl rfl) h0
  obtain ⟨u0, e0, he0, hu0⟩ := DataW.trod_int Tryz.underlying2 hn0
  simp at e0
  subst e0
  obtain ⟨a0, len0, cap0, L0, rfl, w0, z0⟩ : ∃ (a : Option Addr) (l c : Nat) (L : List (List UInt8)), vt0 = .slice a l c ∧ Rd W W.heap.size 1 a l (L.map tv) ∧ ∀ l ∈ L, l.length ≤ 1000000000000000 := by
    rcases open_strings Tryz.underlying22 Tryz.underlying9 (by kernel_rfl) ht0 with ⟨hcs, _⟩ | ⟨x, l, c, ss, hcs, _, hl, hm, hz, hx, hcell, hsz⟩
    · injection hcs with hcs
      exact ⟨none, 0, 0, [], hcs, Rd.nil _ _ _ _, by intro l hl; cases hl⟩
    · injection hcs with hcs
      have hx' : yt0.1 = .slice (strs (ss.take l)) (strs (ss.drop l)) := by rw [hx]
      rw [hx'] at hSz
      obtain ⟨L, h1, h2⟩ := strs_rdz (x := x) (l := l) (ss := ss) (by
        have : l ≤ (if (fun _ => true : Nat → Bool) x.block then c else l) := by simpa using hl
        rw [hz]; exact this) hcell (reach_tab Tryz.underlying24 Tryz.underlying22 hSz)
      exact ⟨_, l, c, L, hcs, h1, h2⟩
  clear hA0
  simp only [List.append_nil] at hW'
  refine (walk a0 len0 cap0 L0 u0 W HT w0 z0 hu0).mono fun e W' ⟨he, bel⟩ => ?_
  subst he
  exact ⟨_, rfl, _, _, _, [], _, [], hW', trodAll_mk1 (shut_bool Tryz.underlying4 _), (trodAll_cons_mk (Below.trod laidOut (by kernel_rfl) (of_decide_eq_true (by kernel_rfl)) k0 bel lt0) trodAll_mk0), rfl, bel.frame _, fun h => by cases h⟩

/-- A table's cells put into its block. -/
def setTab (h : Array Obj) (g : Nat) (cs : Array Value) : Array Obj := h.modify g fun o => match o with
  | .cells _ t frozen => .cells cs t frozen
  | o => o
/-- A world for the witness: the settled one, the tables as their initialisers lay them. -/
noncomputable def laidWorld (os : Os) : World :=
  { World.holding Tryz.prog os ⟨#[], #[], []⟩ with heap := setTab (setTab (World.holding Tryz.prog os ⟨#[], #[], []⟩).heap 0 (Lib.firstTab.map fun z => Value.int .u8 z).toArray) 1 ((List.range 16).flatMap fun i => [Value.int .u8 (Lib.accLo i), Value.int .u8 (Lib.accHi i)]).toArray }
set_option maxRecDepth 100000 in
theorem laid_met (os : Os) : laidMet Tryz.prog Rows.sstWritesRow.laid ((laidWorld os).forCall (fun _ _ => 0) ⟨#[], #[.agg #[.slice none 0 0, .int .i64 0]], []⟩).memory :=
  laidMet_of_run' 8 (by kernel_rfl) (by kernel_rfl)
theorem reads (os : Os) {H : Type} (enc : TypeId × Value → H) : ∃ places, DataW.whole enc Tryz.prog ((laidWorld os).forCall (fun _ _ => 0) ⟨#[], #[.agg #[.slice none 0 0, .int .i64 0]], []⟩).memory Tryz.f3.params.toList Rows.sstWritesSpec.vars false (#[.agg #[.slice none 0 0, .int .i64 0]] : Array Value).toList 8 = some ([.agg [.nil, .lit (.int .i64 0)]], [], places) :=
  ⟨[], by kernel_rfl⟩

set_option maxRecDepth 100000 in
theorem lifted (os : Os) (started : os.Started) (H : Type) (enc : TypeId × Value → H) (F : Stop.Interp) :
    ReturnsInHanded {} Tryz.checked os 3 .any ((OpenSpec.ofChange Rows.sstWritesSpec).preRow enc Tryz.prog Tryz.f3 Rows.sstWritesRow.domain false Rows.sstWritesRow.laid) (((OpenSpec.ofChange Rows.sstWritesSpec).at F).post enc Tryz.prog Tryz.f3 false true false false) := by
  obtain ⟨places, hx⟩ := reads os enc
  refine returnsInHanded_of_row (C := Tryz.checked) (s := OpenSpec.ofChange Rows.sstWritesSpec) own started (by kernel_rfl) Tryz.func3
    (witness_row_at (enc := enc) (C := Tryz.checked) false (laidWorld os) #[.agg #[.slice none 0 0, .int .i64 0]] rfl (by kernel_rfl) (by kernel_rfl) (by kernel_rfl)
      (OpenSpec.preRow_of_cond 8 hx (by kernel_rfl) (fun k hk => by cases hk) (by kernel_rfl) (laid_met os))) ?_
  intro W base args ds gs before hval hW _ _ hSz hL _ _
  exact contract H enc W base args ds gs before (tabs_of hL) hval hW hSz

theorem said : Rows.SstWritesSaid :=
  OpenClaim.holds_of_cond 3 Tryz.f3 rfl rfl rfl rfl rfl rfl rfl ⟨rfl, rfl, rfl, rfl, rfl⟩ rfl rfl rfl rfl rfl (by kernel_rfl) Tryz.func3 (by kernel_rfl)
    (of_decide_eq_true (by kernel_rfl)) (by unfold Func.isWrapper; first | (rw [if_pos (by decide +kernel)]; kernel_rfl) | (rw [if_neg (by decide +kernel)]; exact ⟨rfl, rfl⟩))
    (fun os started H enc _ F => by rw [OpenClaim.pre_eq_preRow]; exact lifted os started H enc F)

/-- No parameter wants a stand-in; the program's own looks are off. -/
theorem plain (f : FuncId) (fn : Func) (hf : Tryz.pinned.checked.prog.funcNamed "cashbook/cashbooklaw7.SstWrites" = some f) (hfn : Tryz.pinned.checked.prog.funcs[f]? = some fn) :
    false = Tryz.pinned.checked.prog.looks [] ∧ ∀ (j : Nat) t, fn.params[j]? = some t → Tryz.pinned.checked.prog.wantsStandIn t = false := by
  obtain rfl : f = 3 := Option.some.inj ((show Tryz.prog.funcNamed "cashbook/cashbooklaw7.SstWrites" = some 3 by kernel_rfl).symm.trans hf) |>.symm
  obtain rfl : fn = Tryz.f3 := (Option.some.inj (Tryz.func3.symm.trans hfn)).symm
  refine ⟨by kernel_rfl, fun j t ht => ?_⟩
  rw [Tryz.params3] at ht
  have hm : t ∈ [24] := by simpa using Array.mem_of_getElem? ht
  have hall : ([24].all fun u => !Tryz.prog.wantsStandIn u) = true := by kernel_rfl
  exact (show Tryz.prog.wantsStandIn t = false by simpa using List.all_eq_true.1 hall t hm)

theorem card : Rows.SstWritesCardSaid :=
  Claim7.holds_tied_plain_at .later [] _ _ _ _ said (fun _ h => by cases h) (by kernel_rfl) (fun _ h => by cases h) sstWrites_row_tie rfl ⟨rfl, rfl⟩ (by kernel_rfl) rfl plain (by kernel_rfl)
#print axioms card
end Go.Proofs.YtllcecnkbndokaaGreatDoor.sstWrites
