/- The table of functions; fun's One, Name by their contracts. Condition: the table is laid. -/
/- From the row's cell to the table of functions. No condition. -/
/- A range over what picked hands back: what the caller owes; an operation in a round is as without. No condition. -/
/- Steps over boxes of one cell; fun.picked by its contract. No condition. -/
/- What functions of many values tell, plainly. No condition. -/
/- Rows of decimals of one's own. No condition. -/
/- fun.values by its contract. Condition: each Arg has just one value. -/
/- A region that draws its order, in a round: by the same tables. No condition. -/
import Derived.Test.YtngkolcpbgibcaaGreatDoorF6
import Derived.Lib.LaidU8T
import Derived.Test.YtngkolcpbgibcaaGreatDoorPk
import Derived.Test.YtngkolcpbgibcaaGreatDoorSp
import Derived.Test.YtngkolcpbgibcaaGreatDoorEarly
import Derived.OrdersIn
set_option linter.unusedVariables false
set_option linter.unusedSimpArgs false
namespace Go.Proofs.YtngkolcpbgibcaaGreatDoor
open Go.RowKit
def fnTab : List (List UInt8 × Int × Int) := [([83, 85, 77], 0, 9223372036854775807), ([77, 73, 78], 0, 9223372036854775807), ([77, 65, 88], 0, 9223372036854775807), ([67, 79, 85, 78, 84], 0, 9223372036854775807), ([65, 86, 69, 82, 65, 71, 69], 0, 9223372036854775807), ([65, 66, 83], 1, 1), ([83, 73, 71, 78], 1, 1), ([73, 78, 84], 1, 1), ([77, 79, 68], 2, 2), ([82, 79, 85, 78, 68], 2, 2), ([73, 70], 2, 3), ([65, 78, 68], 0, 9223372036854775807), ([79, 82], 0, 9223372036854775807), ([78, 79, 84], 1, 1), ([76, 69, 78], 1, 1), ([76, 69, 70, 84], 1, 2), ([82, 73, 71, 72, 84], 1, 2), ([77, 73, 68], 3, 3), ([67, 79, 78, 67, 65, 84], 0, 9223372036854775807), ([85, 80, 80, 69, 82], 1, 1), ([76, 79, 87, 69, 82], 1, 1), ([73, 83, 66, 76, 65, 78, 75], 1, 1), ([73, 83, 69, 82, 82, 79, 82], 1, 1), ([73, 70, 69, 82, 82, 79, 82], 2, 2), ([73, 78, 68, 69, 88], 2, 2), ([67, 72, 79, 79, 83, 69], 2, 9223372036854775807), ([69, 88, 65, 67, 84], 2, 2), ([82, 69, 80, 84], 2, 2), ([78, 65], 0, 0), ([84, 89, 80, 69], 1, 1)]
structure FnT (w : World) : Prop where
  lt : 0 < w.heap.size
  name : ∀ (k : Nat) (x : List UInt8 × Int × Int), fnTab[k]? = some x → w.cell? ⟨0, k * 3, none⟩ = some (sL x.1)
  least : ∀ (k : Nat) (x : List UInt8 × Int × Int), fnTab[k]? = some x → w.cell? ⟨0, k * 3 + 1, none⟩ = some (.int .i64 x.2.1)
  most : ∀ (k : Nat) (x : List UInt8 × Int × Int), fnTab[k]? = some x → w.cell? ⟨0, k * 3 + 2, none⟩ = some (.int .i64 x.2.2)
theorem FnT.below {w W : World} (h : FnT w) (hb : Below w.heap.size w W) : FnT W :=
  ⟨Nat.lt_of_lt_of_le h.lt hb.size, fun k x hx => (hb.cell (p := ⟨0, k * 3, none⟩) h.lt).trans (h.name k x hx), fun k x hx => (hb.cell (p := ⟨0, k * 3 + 1, none⟩) h.lt).trans (h.least k x hx), fun k x hx => (hb.cell (p := ⟨0, k * 3 + 2, none⟩) h.lt).trans (h.most k x hx)⟩
section
variable {o : Oper} {a : Act} {w W : World} {K : Act → World → Prop} {Q : Exit → Act → World → Prop} {bs : Bxs} {v : VX} {m s : Int}
theorem bs_v (H : Hid (BX w bs W)) (x : Operand) (ho : o.op = .buildSlice 53 1 #[(0, x)]) (hx : a.eval x = .agg (vc v).toArray) (h : ∀ g W', Hid (BX w ((g, 32, vc v) :: bs) W') → K (a.put o.dst (.slice (some ⟨g, 0, none⟩) 1 1)) W') : o.wp Tryz.prog a W K Q := by
  have hm := H.out.made 32 (vc v); unfold Oper.wp execOp; rw [ho]; simp only [List.map_toArray, List.map_cons, List.map_nil, hx]; clear ho hx
  cases v <;> (simp only [vc] at hm h ⊢; go_simp; exact h _ _ (Lib.hid hm))
end
set_option maxRecDepth 20000 in
set_option maxHeartbeats 4000000 in
theorem fOne_any {w : World} (v : VX) :
    Calls Tryz.prog 25 #[.agg (vc v).toArray] w fun e W => ∃ g, w.heap.size ≤ g ∧ e = .returned (.agg (ac false (some ⟨g, 0, none⟩) 1 1).toArray) ∧ Bk W g 32 (vc v).toArray ∧ Below w.heap.size w W := by
  have HB := Lib.hid (BX.start w); go_enter Tryz.func25, Tryz.ntmps25
  repeat' (first | ((with_reducible show Oper.wp _ _ _ _ _ _); (first | ((first | refine al_a HB rfl ?_ | refine bx_v HB _ rfl rfl ?_); clear HB; (first | (have _t : Nat := g0; clear _t; intro g1 W HB) | intro g0 W HB); go_simp) | (refine ld_v 1 HB rfl _ rfl rfl ?_; go_simp) | (apply stop_bs; exact rfl))) | go_values | go_skip | go_guarded | go_step | go_upon)
  refine Lib.hid ?_; refine bs_v HB _ rfl rfl ?_; clear HB; intro g2 W HB; go_simp
  repeat' (first | ((with_reducible show Oper.wp _ _ _ _ _ _); apply stop_bd; exact rfl) | go_values | go_skip | go_guarded | go_step | go_upon)
  refine Lib.hid ?_; refine wp_b (v := .agg (ac false (some ⟨g2, 0, none⟩) 1 1).toArray) (by kernel_rfl) ?_; go_simp
  repeat' (first | ((with_reducible show Oper.wp _ _ _ _ _ _); refine st_a 1 HB rfl _ _ rfl rfl rfl ?_; clear HB; intro W HB; dsimp only [List.set] at HB; go_simp) | go_values | go_skip | go_guarded | go_step | go_upon)
  exact bodyPost_ret (res_a rfl HB (i := 1) rfl rfl) rfl ⟨g2, HB.out.lo _ (List.mem_cons_self ..), rfl, HB.out.get (i := 0) rfl, HB.out.bel⟩
def nameX (k : Int) : Option (List UInt8) := if 0 ≤ k then (fnTab[k.toNat]?).map (·.1) else none
def nameV : Option (List UInt8) → Value
  | some l => .tuple #[sL l, .bool true]
  | none => .tuple #[.string ⟨#[]⟩, .bool false]
set_option maxRecDepth 20000 in
set_option maxHeartbeats 4000000 in
theorem fName_any {w : World} (HF : FnT w) (k : Int) :
    Calls Tryz.prog 23 #[.int .i64 k] w fun e W => e = .returned (nameV (nameX k)) ∧ W = w := by
  have HI := Lib.hid (fun W : World => isFunction_any (w := W) k)
  by_cases hf : 0 ≤ k ∧ k < 30
  · rw [show funB k = true from decide_eq_true hf] at HI; obtain ⟨n, rfl⟩ : ∃ n : Nat, k = (n : Int) := ⟨k.toNat, by omega⟩
    have hn : n < fnTab.length := by have : fnTab.length = 30 := rfl; omega
    obtain ⟨x, hx⟩ : ∃ x, fnTab[n]? = some x := ⟨_, List.getElem?_eq_getElem hn⟩
    have c0 := HF.name n x hx; rw [show nameX (n : Int) = some x.1 by unfold nameX; rw [if_pos hf.1]; simp [hx]]; have hn0 : (0 : Int) ≤ (n : Int) := by omega
    have hn1 : (n : Int) < 30 := by omega
    have hn2 : n < 30 := by omega
    clear HF hf hn hx; simp only [nameV, sL] at c0 ⊢; generalize x.1 = l at *; go_enter Tryz.func23, Tryz.ntmps23
    repeat' (first | go_values | go_skip | go_guarded | go_step | go_upon)
    refine (HI.out _).mono ?_; rintro e W1 ⟨rfl, rfl⟩; dsimp only
    repeat' (first | go_values | go_skip | go_guarded | go_step | go_upon)
    go_ret2
    exact ⟨rfl, rfl⟩
  · rw [show funB k = false from decide_eq_false hf] at HI
    rw [show nameX k = none by
      unfold nameX
      split
      · rw [List.getElem?_eq_none (by have : fnTab.length = 30 := rfl; omega)]; rfl
      · rfl]
    simp only [nameV]; clear HF hf; go_enter Tryz.func23, Tryz.ntmps23
    repeat' (first | go_values | go_skip | go_guarded | go_step | go_upon)
    refine (HI.out _).mono ?_; rintro e W1 ⟨rfl, rfl⟩; dsimp only
    repeat' (first | go_values | go_skip | go_guarded | go_step | go_upon)
    go_ret2
    exact ⟨rfl, rfl⟩
end Go.Proofs.YtngkolcpbgibcaaGreatDoor
namespace Go.Proofs.YtngkolcpbgibcaaGreatDoor
open Go.RowKit Go.Lib
def fnData : DataW Unit := .agg (fnTab.map fun x => .agg [.lit (.string x.1), .lit (.int .i64 x.2.1), .lit (.int .i64 x.2.2)])
theorem fn_struct {W : World} {fuel : Nat} {cs : List Value} {x : List UInt8 × Int × Int} {q : List MemPlace} (h : DataW.trod (fun _ => ()) Tryz.prog W 0 (fun _ => true) false fuel 108 cs = some ((.agg [.lit (.string x.1), .lit (.int .i64 x.2.1), .lit (.int .i64 x.2.2)] : DataW Unit), q)) :
    cs[0]? = some (sL x.1) ∧ cs[1]? = some (.int .i64 x.2.1) ∧ cs[2]? = some (.int .i64 x.2.2) := by
  obtain ⟨xs, n, rfl, hx, hl, hxl, hall⟩ := DataW.trod_struct Tryz.underlying108 h
  have hxs : xs.map (·.1) = [(.lit (.string x.1) : DataW Unit), .lit (.int .i64 x.2.1), .lit (.int .i64 x.2.2)] := by
    have := congrArg Prod.fst hx
    simpa using this.symm
  match xs, hxs with
  | [a, b, c], hxs =>
    simp only [List.map_cons, List.map_nil, List.cons.injEq, and_true] at hxs; obtain ⟨ha, hb, hc⟩ := hxs; have h0 := hall 0 _ rfl; have h1 := hall 1 _ rfl; have h2 := hall 2 _ rfl; have c9 : Tryz.prog.cellsOf 9 = 1 := by kernel_rfl
    have c3 : Tryz.prog.cellsOf 3 = 1 := by kernel_rfl
    have h0' : DataW.trod (fun _ => ()) Tryz.prog W 0 (fun _ => true) false n 9 ((cs.drop 0).take (Tryz.prog.cellsOf 9)) = some a := h0; have h1' : DataW.trod (fun _ => ()) Tryz.prog W 0 (fun _ => true) false n 3 ((cs.drop 1).take (Tryz.prog.cellsOf 3)) = some b := h1; have h2' : DataW.trod (fun _ => ()) Tryz.prog W 0 (fun _ => true) false n 3 ((cs.drop 2).take (Tryz.prog.cellsOf 3)) = some c := h2; rw [c9] at h0'; rw [c3] at h1' h2'; obtain ⟨s, e0, ea, -⟩ := DataW.trod_string Tryz.underlying9 h0'; obtain ⟨y, e1, eb, -⟩ := DataW.trod_int Tryz.underlying3 h1'; obtain ⟨z, e2, ec, -⟩ := DataW.trod_int Tryz.underlying3 h2'; rw [ea] at ha; rw [eb] at hb; rw [ec] at hc; injection ha with ha; injection ha with ha; injection hb with hb; injection hb with _ hb; injection hc with hc; injection hc with _ hc; have g0 := congrArg (·[0]?) e0; have g1 := congrArg (·[0]?) e1; have g2 := congrArg (·[0]?) e2; simp only [List.getElem?_take, List.getElem?_drop] at g0 g1 g2; refine ⟨?_, ?_, ?_⟩
    · have : cs[0]? = some (.string s) := by simpa using g0
      rw [this, ← ha]; rfl
    · have : cs[1]? = some (.int .i64 y) := by simpa using g1
      rw [this, hb]
    · have : cs[2]? = some (.int .i64 z) := by simpa using g2
      rw [this, hc]
theorem fnT_of {W : World} (h : VarReads Tryz.prog W "cashbook/fun.functions" fnData) : FnT W := by
  obtain ⟨g, t, cs, fuel, p, hg, hty, hvar, hd⟩ := h; obtain rfl := Option.some.inj ((show Tryz.prog.globalNamed "cashbook/fun.functions" = some 0 by kernel_rfl).symm.trans hg)
  obtain rfl := Option.some.inj ((show (Tryz.prog.globals[(0 : Nat)]?).map (·.type) = some 109 by kernel_rfl).symm.trans hty)
  have key : ∀ (k : Nat) (x : List UInt8 × Int × Int), fnTab[k]? = some x → W.cell? ⟨0, k * 3, none⟩ = some (sL x.1) ∧ W.cell? ⟨0, k * 3 + 1, none⟩ = some (.int .i64 x.2.1) ∧ W.cell? ⟨0, k * 3 + 2, none⟩ = some (.int .i64 x.2.2) := by
    intro k x hk; have hk30 : k < 30 := (List.getElem?_eq_some_iff.1 hk).1; obtain ⟨fuel', d, q, hdi, he⟩ := array_elem Tryz.underlying109 hd k hk30; rw [List.getElem?_map, hk] at hdi; injection hdi with hdi; subst hdi; obtain ⟨a, b, c⟩ := fn_struct he; have hc3 : Tryz.prog.cellsOf 108 = 3 := by kernel_rfl
    rw [hc3] at a b c; simp only [List.getElem?_take, List.getElem?_drop] at a b c; refine ⟨?_, ?_, ?_⟩
    · rw [World.var?_cell hg hvar, ← Array.getElem?_toList]
      simpa using a
    · rw [World.var?_cell hg hvar, ← Array.getElem?_toList]
      simpa using b
    · rw [World.var?_cell hg hvar, ← Array.getElem?_toList]
      simpa using c
  exact ⟨World.block_lt_of_cell? _ _ (key 0 _ rfl).1, fun k x h => (key k x h).1, fun k x h => (key k x h).2.1, fun k x h => (key k x h).2.2⟩
end Go.Proofs.YtngkolcpbgibcaaGreatDoor
namespace Go.Proofs.YtngkolcpbgibcaaGreatDoor
open Go.RowKit Go.Shelf
attribute [local go_sem] Oper.semAt_some
theorem in_wp {n l : Nat} {o : Oper} {a : Act} {W : World} {K : Act → World → Prop} {Q : Exit → Act → World → Prop} (hd : ∀ c, o.op ≠ .defer c) (h : o.wp Tryz.prog a W K Q) : o.wpIn (Fence.wide.inRound l) n Tryz.prog a W K Q := by
  unfold Oper.wp at h; unfold Oper.wpIn; refine ⟨fun _ _ => trivial, ?_⟩; rw [Oper.semAt_plain _ _ _ hd]; generalize (execOp a.eval o).run Tryz.prog W = r at h ⊢
  cases r with
  | ok x w' =>
    cases x with
    | value v => exact h
    | skip => exact h
    | defer d => exact h
    | enter f args =>
      rw [Oper.upon_enter] at h; rw [Oper.uponIn_enter]; refine ⟨fun h => absurd h (by simp [Fence.wide, Fence.inRound]), (CallsIn.inRound l (callsIn_wide.2 h)).mono ?_⟩; intro e w'' he
      cases e <;> exact he
    | row r args =>
      rw [Oper.upon_row] at h; rw [Oper.uponIn_row]
      exact ⟨fun h => absurd h (by simp [Fence.wide, Fence.inRound]), fun c cs _ => by
        obtain ⟨v, w', hr, hs⟩ := h c cs
        exact ⟨v, w', hr, stepsIn_wide.2 hs⟩⟩
    | _ => exact h.elim
  | halt x w' =>
    cases x <;> exact h
def Nc (B : Nat) (W : World) (k : Nat) : Prop := B ≤ k ∧ ∃ o : Obj, W.heap[k]? = some o ∧ o.isCells = false
theorem keep_grown {B : Nat} {W W' : World} {row : Option Nat} (hg : W.grownBy W' row) (hr : ∀ r, row = some r → B ≤ r ∧ ∃ o : Obj, W.heap[r]? = some o ∧ o.isCells = false) : Keep (Nc B W) W W' :=
  ⟨hg.os, hg.tape, hg.output, hg.size, fun k hk hn => hg.block k hk fun e => hn (hr k e.symm)⟩
theorem nc_bk {B g : Nat} {W : World} {t : TypeId} {cs : Array Value} (h : Bk W g t cs) : ¬ Nc B W g := by
  rintro ⟨-, o, ho, hc⟩; unfold Bk at h; rw [h] at ho; injection ho with ho; subst ho
  cases hc
theorem KpX.of_grown {n0 n2 : Nat} {W W' : World} {row : Option Nat} (hg : W.grownBy W' row) (hn : n0 ≤ W.heap.size) (hr : ∀ r, row = some r → n0 ≤ r ∧ ∃ o : Obj, W.heap[r]? = some o ∧ o.isCells = false) : KpX n0 n2 W W' := by
  refine ⟨⟨hg.os, hg.tape, hg.output, hg.size, fun k hk => hg.block k (by omega) fun e => ?_⟩, fun i o _ ho hc => ?_⟩
  · have := (hr k e.symm).1; omega
  · rw [hg.block i (Array.getElem?_eq_some_iff.1 ho).1 fun e => ?_]
    · exact ho
    · obtain ⟨-, o', ho', hc'⟩ := hr i e.symm; rw [ho] at ho'; injection ho' with ho'; subst ho'
      cases o <;> simp_all [keepO, Obj.isCells]
structure RK (n0 n2 B : Nat) (W W' : World) : Prop where
  kp : KpX n0 n2 W W'
  from_ : KeepsFrom B W W'
theorem rk_keep {n0 n2 B : Nat} {T : Nat → Prop} {W W' : World} (h : Keep T W W') (hn : n0 ≤ W.heap.size) (h0 : ∀ i, T i → n0 ≤ i) (hT : ∀ i, T i → i < n2 ∨ ∃ cs t f, W.heap[i]? = some (.cells cs t f) ∧ pkT t = false) (hB : n2 ≤ B) : RK n0 n2 B W W' := by
  refine ⟨⟨h.below hn fun i hi ht => by have := h0 i ht; omega, fun i o hi ho hc => ?_⟩, ⟨h.size, fun i o hi ho hc => ?_⟩⟩
  · rw [h.block i (Array.getElem?_eq_some_iff.1 ho).1 fun ht => ?_]
    · exact ho
    · rcases hT i ht with h1 | ⟨cs, t, f, h1, h2⟩
      · omega
      · rw [ho] at h1; injection h1 with h1; subst h1; rw [keepO, h2] at hc
        cases hc
  · rw [h.block i (Array.getElem?_eq_some_iff.1 ho).1 fun ht => ?_]
    · exact ho
    · rcases hT i ht with h1 | ⟨cs, t, f, h1, h2⟩
      · omega
      · rw [ho] at h1; injection h1 with h1; subst h1
        cases hc
theorem RK.trans {n0 n2 B : Nat} {X Y Z : World} (h : RK n0 n2 B X Y) (k : RK n0 n2 B Y Z) : RK n0 n2 B X Z := ⟨h.kp.trans k.kp, h.from_.trans k.from_⟩
theorem rk_below {n0 n2 B : Nat} {W W' : World} (h : Below W.heap.size W W') (hn : n0 ≤ W.heap.size) (hB : n2 ≤ B) : RK n0 n2 B W W' :=
  rk_keep (T := fun _ => False) (Keep.of_below h fun i hi hb => by omega) hn (fun _ h => h.elim) (fun _ h => h.elim) hB
def rdPost (n0 n2 B : Nat) (I Ix : List VX → World → Prop) (xs : List VX) (W : World) : Exit → Act → World → Prop
  | .normal, _, W' => RK n0 n2 B W W' ∧ I xs W'
  | .ret, _, W' => RK n0 n2 B W W' ∧ Ix xs W'
  | _, _, _ => False
theorem range_pick {n0 n2 Ba Bw bw cw c p : Nat} {args : List (Bool × List VX)} {ks : List Int} {A : Option Addr} {g : Operand} {assign body : Code} {Q : Exit → Act → World → Prop} {a : Act} {W0 : World}
    (hal : args.length ≤ 1000000) (hvl : ∀ a ∈ args, a.2.length ≤ 1000000) (hkl : ks.length ≤ 100) (hP : ∀ a ∈ args, ∀ x ∈ a.2, PV x)
    (hg : a.eval g = .func (.func 170) #[] #[.pointer (some ⟨Ba, 0, none⟩), .pointer (some ⟨Bw, 0, none⟩)])
    (hat : PkAt n0 n2 Ba Bw args ks A c bw cw W0) (I Ix : List VX → World → Prop)
    (hI : ∀ pre W W', I pre W → Keep (Nc W0.heap.size W) W W' → I pre W') (hIx : ∀ pre W W', Ix pre W → Keep (Nc W0.heap.size W) W W' → Ix pre W')
    (h0 : I [] W0) (act : VX → Nat → Act)
    (hassign : ∀ (l : Nat) (x : VX) (W : World) (K : Act → World → Prop), (∀ Bx W', W.heap.size ≤ Bx → Bk W' Bx 32 (vc x).toArray → Keep (fun _ => False) W W' → K (act x Bx) W') →
      assign.wpIn (Fence.wide.inRound l) 1 Tryz.prog (Exit.then K (fun _ _ _ => False)) { tmps := a.tmps.setIfInBounds p (.agg (vc x).toArray), defers := [] } W)
    (hbody : ∀ (l : Nat) (pre : List VX) (x : VX) (Bx : Nat) (W : World), I pre W → Bk W Bx 32 (vc x).toArray → W0.heap.size ≤ Bx → W0.heap.size ≤ W.heap.size → PV x → pre.length < (pickL ks args).length → body.wpIn (Fence.wide.inRound l) 1 Tryz.prog (rdPost n0 n2 W0.heap.size I Ix (pre ++ [x]) W) (act x Bx) W)
    (hdone : ∀ (D : Nat) (W : World), W0.heap.size ≤ D → I (pickL ks args) W → W.heap[D]? = some (.deferred (some [])) → Q .normal { a with defers := { target := .collected D, args := #[] } :: a.defers } W)
    (hstop : ∀ (D : Nat) (pre : List VX) (W : World), W0.heap.size ≤ D → pre <+: pickL ks args → Ix pre W → W.heap[D]? = some (.deferred (some [])) → Q .ret { a with defers := { target := .collected D, args := #[] } :: a.defers } W) :
    (Code.rangeFunc g #[p] assign body).wp Tryz.prog Q a W0 := by
  have hlt := hat.lt
  refine wpIn_wide.1 (wpIn_rangeFunc_ownH (F := Fence.wide) (n := 3) (α := VP) (encs := fun x => #[.agg (vc x.1).toArray]) (Kp := KpX n0 n2) (S := fun xs => xs.map (·.1) = pickL ks args) (Sp := fun pre => pre.map (·.1) <+: pickL ks args) (N := (pickL ks args).length) (w0 := W0) rfl (by omega) hg trivial (enters_of Tryz.func170 (by kernel_rfl) rfl)
    ?seq (fun h k => h.trans k) ?kb (Below.refl _ _) (fun _ => rfl) (fun pre W => I (pre.map (·.1)) W ∧ W0.heap.size ≤ W.heap.size) (fun cd pre W => cd = .ret ∧ Ix (pre.map (·.1)) W) ?oI ?oX ⟨h0, Nat.le_refl _⟩
    (fun x a' W => ∃ Bx, W0.heap.size ≤ Bx ∧ Bk W Bx 32 (vc x.1).toArray ∧ a' = act x.1 Bx) ?oA ?assign ?body ?done ?stop)
  case seq =>
    intro l J Jx W hW hJ _ hY hj; exact picked1_in 2 (by omega) l hal hvl hkl hP J Jx hJ hY (hat.kp ⟨hW.mono hlt.2, fun i o _ ho _ => by rw [hW.block i (Array.getElem?_eq_some_iff.1 ho).1]; exact ho⟩) hj
  case kb =>
    intro W l o o' hl ho hc _
    exact KpX.of_grown (grownBy_putObj' W l o') (by have := (Array.getElem?_eq_some_iff.1 ho).1; omega) fun r e => by
      injection e with e; subst e; exact ⟨by omega, o, ho, hc⟩
  case oI =>
    intro pre W W' row hs hg hr; exact ⟨hI _ W W' hs.1 (keep_grown hg hr), Nat.le_trans hs.2 hg.size⟩
  case oX =>
    intro cd pre W W' row hs hg hr; exact ⟨hs.1, hIx _ W W' hs.2 (keep_grown hg hr)⟩
  case oA =>
    intro x a' _ W W' row hs hg hr; obtain ⟨Bx, h1, h2, h3⟩ := hs; exact ⟨Bx, h1, (keep_grown hg hr).bk h2 (nc_bk h2), h3⟩
  case assign =>
    intro l pre x W K hi hK; simp only [List.zip_toArray, List.zip_cons_cons, List.zip_nil_right, List.foldl_toArray', List.size_toArray, List.length_cons, List.length_nil, List.foldl_cons, List.foldl_nil, Nat.zero_add, Nat.reduceSub]; refine hassign l x.1 W K fun Bx W' hb hbk hk => ?_; have hkn : Keep (Nc W0.heap.size W) W W' := hk.mono fun _ _ h => h.elim; have hr : RK n0 n2 W0.heap.size W W' := rk_keep hk (by have := hi.2; omega) (fun _ h => h.elim) (fun _ h => h.elim) hlt.1; exact hK _ _ hr.from_ hr.kp ⟨hI _ W W' hi.1 hkn, Nat.le_trans hi.2 hk.size⟩ ⟨Bx, by have := hi.2; omega, hbk, rfl⟩
  case body =>
    rintro l pre x a' W hl hr ⟨hi, hs⟩ ⟨Bx, hB, hb, rfl⟩ hlen; refine wpIn_mono (hbody l (pre.map (·.1)) x.1 Bx W hi hb hB hs x.2 (by simpa using hlen)) ?_; intro e a'' W' hp
    cases e with
    | normal => exact ⟨hp.1.from_, hp.1.kp, by simpa using hp.2, Nat.le_trans hs hp.1.kp.below.size⟩
    | ret => exact ⟨hp.1.from_, rfl, by simpa using hp.2⟩
    | exit id => exact hp.elim
    | goto t => exact hp.elim
    | panic _ => exact hp.elim
    | outgrown => exact hp.elim
  case done =>
    rintro D xs W hD hS ⟨hi, _⟩ hK; rw [hS] at hi; exact hdone D W hD hi hK
  case stop =>
    rintro D cd pre W hD hS ⟨rfl, hx⟩ hK; exact wpIn_ret (hstop D _ W hD hS hx hK)
theorem pickL_len {ks : List Int} : ∀ {args : List (Bool × List VX)}, (∀ a ∈ args, a.2.length ≤ 1000000) → (pickL ks args).length ≤ args.length * 1000000
  | [], _ => by simp [pickL]
  | a :: r, h => by
    have h1 := h a (List.mem_cons_self ..); have h2 := pickL_len (ks := ks) (args := r) fun b hb => h b (List.mem_cons_of_mem _ hb); have h3 : (pickA ks a).length ≤ a.2.length := List.length_filter_le _ _; have e : pickL ks (a :: r) = pickA ks a ++ pickL ks r := rfl; rw [e, List.length_append, List.length_cons, Nat.add_mul]; omega
theorem BX.putObj {w W : World} {bs : Bxs} {D : Nat} {o o' : Obj} (h : BX w bs W) (hD : w.heap.size ≤ D) (ho : W.heap[D]? = some o) (hc : o.isCells = false) : BX w bs (W.putObj D o') := by
  have hk : Keep (Nc w.heap.size W) W (W.putObj D o') := keep_grown (grownBy_putObj' W D o') fun r e => by
    injection e with e; subst e; exact ⟨hD, o, ho, hc⟩
  exact ⟨h.bel.trans (hk.below h.bel.size fun i hi hn => by have := hn.1; omega), h.lo, fun b hb => hk.bk (h.bk b hb) (nc_bk (h.bk b hb)), h.nd⟩
theorem leave_taken {fn : Func} {tmps : Array Value} {R : Ending → World → Prop} {W : World} {D n : Nat} {v : Value} (hK : W.heap[D]? = some (.deferred (some []))) (hv : (results fn tmps).run Tryz.prog (W.putObj D (.deferred none)) = .ok v (W.putObj D (.deferred none))) (hR : R (.returned v) (W.putObj D (.deferred none))) :
    bodyPostM Fence.wide n Tryz.prog fn R .ret { tmps := tmps, defers := [{ target := .collected D, args := #[] }] } W := by
  refine ⟨by simp, .inl ⟨_, _, rfl, run_takeDeferred hK, ?_⟩⟩; exact ⟨_, hv, hR⟩
end Go.Proofs.YtngkolcpbgibcaaGreatDoor
namespace Go.Proofs.YtngkolcpbgibcaaGreatDoor
open Go.RowKit Go.Shelf
theorem BX.keep {w W W' : World} {bs : Bxs} {B : Nat} (h : BX w bs W) (hB : w.heap.size ≤ B) (hk : Keep (Nc B W) W W') : BX w bs W' :=
  ⟨h.bel.trans (hk.below h.bel.size fun i hi hn => by have := hn.1; omega), h.lo, fun b hb => hk.bk (h.bk b hb) (nc_bk (h.bk b hb)), h.nd⟩
theorem bk_set1 {W : World} {g : Nat} {t : TypeId} {u0 u : Value} (h : Bk W g t [u0].toArray) : Bk (W.setCell ⟨g, 0, none⟩ u) g t [u].toArray := by
  have := h.set_ 0 u
  simpa using this
section
variable {o : Oper} {a : Act} {w W : World} {K : Act → World → Prop} {Q : Exit → Act → World → Prop} {bs : Bxs} {g i : Nat} {T : TypeId} {cs : List Value} {u u0 v : Value}
theorem stop_app {s x : Operand} {t : TypeId} (ho : o.op = .call { callee := .builtin .append, args := #[s, x], argTypes := #[t, t] }) (h : Hid (o.wp Tryz.prog a W K Q)) : o.wp Tryz.prog a W K Q := h.out
theorem bs_g {e : TypeId} {n : Nat} (H : Hid (BX w bs W)) (cs : List Value) (hr : (execOp a.eval o).run Tryz.prog W = .ok (.value (.slice (some ⟨W.heap.size, 0, none⟩) n n)) (W.alloc (.cells cs.toArray e))) (h : ∀ g W', (∀ b ∈ bs, b.1 < g) → Hid (BX w ((g, e, cs) :: bs) W') → K (a.put o.dst (.slice (some ⟨g, 0, none⟩) n n)) W') : o.wp Tryz.prog a W K Q := by
  unfold Oper.wp; rw [hr]; exact h _ _ (fun b hb => (H.out.bk b hb).lt) (Lib.hid (H.out.made e cs))
theorem als_l (H : Hid (BX w bs W)) (ho : o.op = .alloc 135) (h : ∀ g W', Hid (BX w ((g, 135, [.slice none 0 0]) :: bs) W') → K (a.put o.dst (.pointer (some ⟨g, 0, none⟩))) W') : o.wp Tryz.prog a W K Q := by
  have hm := H.out.made 135 [.slice none 0 0]; unfold Oper.wp execOp; rw [ho]; go_simp; exact h _ _ (Lib.hid hm)
theorem lfs_l (i : Nat) (H : Hid (BX w bs W)) (hi : bs[i]? = some (g, 135, [u])) (x : Operand) (ho : o.op = .load 135 x) (hx : a.eval x = .pointer (some ⟨g, 0, none⟩)) (h : K (a.put o.dst u) W) : o.wp Tryz.prog a W K Q := by
  have c := H.out.cell hi 0; unfold Oper.wp execOp; rw [ho]; simp only [hx]; clear ho hx hi H; go_simp; exact h
theorem lfm_l1 (x : Operand) {q : Addr} (ho : o.op = .load 135 x) (hx : a.eval x = .pointer (some q)) (c : W.cell? q = some u) (h : K (a.put o.dst u) W) : o.wp Tryz.prog a W K Q := by
  unfold Oper.wp execOp; rw [ho]; simp only [hx]; clear ho hx; go_simp; exact h
theorem als_b (H : Hid (BX w bs W)) (ho : o.op = .alloc 4) (h : ∀ g W', Hid (BX w ((g, 4, [.bool false]) :: bs) W') → K (a.put o.dst (.pointer (some ⟨g, 0, none⟩))) W') : o.wp Tryz.prog a W K Q := by
  have hm := H.out.made 4 [.bool false]; unfold Oper.wp execOp; rw [ho]; go_simp; exact h _ _ (Lib.hid hm)
theorem als_j (H : Hid (BX w bs W)) (ho : o.op = .alloc 2) (h : ∀ g W', Hid (BX w ((g, 2, [.int .i64 0]) :: bs) W') → K (a.put o.dst (.pointer (some ⟨g, 0, none⟩))) W') : o.wp Tryz.prog a W K Q := by
  have hm := H.out.made 2 [.int .i64 0]; unfold Oper.wp execOp; rw [ho]; go_simp; exact h _ _ (Lib.hid hm)
theorem sts_j (i : Nat) (H : Hid (BX w bs W)) (hi : bs[i]? = some (g, 2, [u0])) (x y : Operand) (ho : o.op = .store 2 x y) (hx : a.eval x = .pointer (some ⟨g, 0, none⟩)) {z : Int} (hy : a.eval y = (.int .i64 z)) (h : ∀ W', Hid (BX w (bs.set i (g, 2, [(.int .i64 z)])) W') → K (a.put o.dst undef) W') : o.wp Tryz.prog a W K Q := by
  have c := H.out.cell hi 0; have f := H.out.frozen hi 0; have hb := bk_set1 (u := (.int .i64 z)) (H.out.get hi); have hk : Keep (fun j => j = g) W (W.setCell ⟨g, 0, none⟩ (.int .i64 z)) := (Keep.refl (fun j => j = g) W).setCell (p := ⟨g, 0, none⟩) (fun _ => rfl) (.int .i64 z); have hn := Lib.hid (h _ (Lib.hid (H.out.turn hi hb hk))); clear H hb hk h; unfold Oper.wp execOp; rw [ho]; simp only [hx, hy]; clear ho hx hy; go_simp; exact hn.out
theorem lfs_j (i : Nat) (H : Hid (BX w bs W)) (hi : bs[i]? = some (g, 2, [u])) (x : Operand) (ho : o.op = .load 2 x) (hx : a.eval x = .pointer (some ⟨g, 0, none⟩)) (h : K (a.put o.dst u) W) : o.wp Tryz.prog a W K Q := by
  have c := H.out.cell hi 0; unfold Oper.wp execOp; rw [ho]; simp only [hx]; clear ho hx hi H; go_simp; exact h
theorem lfm_j1 (x : Operand) {q : Addr} (ho : o.op = .load 2 x) (hx : a.eval x = .pointer (some q)) (c : W.cell? q = some u) (h : K (a.put o.dst u) W) : o.wp Tryz.prog a W K Q := by
  unfold Oper.wp execOp; rw [ho]; simp only [hx]; clear ho hx; go_simp; exact h
theorem stk_l (i : Nat) (H : Hid (BX w bs W)) (hi : bs[i]? = some (g, 135, [u0])) (x y : Operand) (ho : o.op = .store 135 x y) (hx : a.eval x = .pointer (some ⟨g, 0, none⟩)) {A : Option Addr} {n cp : Nat} (hy : a.eval y = (.slice A n cp)) (h : ∀ W', Hid (BX w (bs.set i (g, 135, [(.slice A n cp)])) W') → Keep (fun j => j = g) W W' → K (a.put o.dst undef) W') : o.wp Tryz.prog a W K Q := by
  have c := H.out.cell hi 0; have f := H.out.frozen hi 0; have hb := bk_set1 (u := (.slice A n cp)) (H.out.get hi); have hk : Keep (fun j => j = g) W (W.setCell ⟨g, 0, none⟩ (.slice A n cp)) := (Keep.refl (fun j => j = g) W).setCell (p := ⟨g, 0, none⟩) (fun _ => rfl) (.slice A n cp); have hn := Lib.hid (h _ (Lib.hid (H.out.turn hi hb hk)) hk); clear H hb hk h; unfold Oper.wp execOp; rw [ho]; simp only [hx, hy]; clear ho hx hy; go_simp; exact hn.out
theorem stk_b (i : Nat) (H : Hid (BX w bs W)) (hi : bs[i]? = some (g, 4, [u0])) (x y : Operand) (ho : o.op = .store 4 x y) (hx : a.eval x = .pointer (some ⟨g, 0, none⟩)) {b : Bool} (hy : a.eval y = (.bool b)) (h : ∀ W', Hid (BX w (bs.set i (g, 4, [(.bool b)])) W') → Keep (fun j => j = g) W W' → K (a.put o.dst undef) W') : o.wp Tryz.prog a W K Q := by
  have c := H.out.cell hi 0; have f := H.out.frozen hi 0; have hb := bk_set1 (u := (.bool b)) (H.out.get hi); have hk : Keep (fun j => j = g) W (W.setCell ⟨g, 0, none⟩ (.bool b)) := (Keep.refl (fun j => j = g) W).setCell (p := ⟨g, 0, none⟩) (fun _ => rfl) (.bool b); have hn := Lib.hid (h _ (Lib.hid (H.out.turn hi hb hk)) hk); clear H hb hk h; unfold Oper.wp execOp; rw [ho]; simp only [hx, hy]; clear ho hx hy; go_simp; exact hn.out
theorem stk_j (i : Nat) (H : Hid (BX w bs W)) (hi : bs[i]? = some (g, 2, [u0])) (x y : Operand) (ho : o.op = .store 2 x y) (hx : a.eval x = .pointer (some ⟨g, 0, none⟩)) {z : Int} (hy : a.eval y = (.int .i64 z)) (h : ∀ W', Hid (BX w (bs.set i (g, 2, [(.int .i64 z)])) W') → Keep (fun j => j = g) W W' → K (a.put o.dst undef) W') : o.wp Tryz.prog a W K Q := by
  have c := H.out.cell hi 0; have f := H.out.frozen hi 0; have hb := bk_set1 (u := (.int .i64 z)) (H.out.get hi); have hk : Keep (fun j => j = g) W (W.setCell ⟨g, 0, none⟩ (.int .i64 z)) := (Keep.refl (fun j => j = g) W).setCell (p := ⟨g, 0, none⟩) (fun _ => rfl) (.int .i64 z); have hn := Lib.hid (h _ (Lib.hid (H.out.turn hi hb hk)) hk); clear H hb hk h; unfold Oper.wp execOp; rw [ho]; simp only [hx, hy]; clear ho hx hy; go_simp; exact hn.out
theorem stk_v (i : Nat) (H : Hid (BX w bs W)) {v0 v : VX} (hi : bs[i]? = some (g, 32, vc v0)) (x y : Operand) (ho : o.op = .store 32 x y) (hx : a.eval x = .pointer (some ⟨g, 0, none⟩)) (hy : a.eval y = .agg (vc v).toArray) (h : ∀ W', Hid (BX w (bs.set i (g, 32, vc v)) W') → Keep (fun j => j = g) W W' → K (a.put o.dst undef) W') : o.wp Tryz.prog a W K Q := by
  have hb := H.out.get hi; refine wp_store_mid _ x y ho g 0 (vc v).toArray hx hy (fun j hj => ?_) (by rw [List.size_toArray, vc_len]; kernel_rfl) (all_oneCell_toArray (vc_one v)) ?_
  · rw [List.size_toArray, vc_len] at hj; rw [Nat.zero_add, hb.cell, hb.frozen]; exact ⟨by simp [vc_len]; omega, rfl⟩
  · have h2 := setCells_bk (vc v) 0 (vc v0) W hb (by rw [vc_len, vc_len]; omega); have e : (vc v0).take 0 ++ vc v ++ (vc v0).drop (0 + (vc v).length) = vc v := by simp [List.drop_eq_nil_of_le (Nat.le_of_eq ((vc_len v0).trans (vc_len v).symm))]
    rw [e] at h2; have hk := setCells_keep (g := g) (vc v) 0 W; exact h _ (Lib.hid (H.out.turn hi h2 hk)) hk
theorem bs_d {m s : Int} (H : Hid (BX w bs W)) (x : Operand) (ho : o.op = .buildSlice 135 1 #[(0, x)]) (hx : a.eval x = .agg (dc m s).toArray) (h : ∀ g W', Hid (BX w ((g, 30, dc m s) :: bs) W') → K (a.put o.dst (.slice (some ⟨g, 0, none⟩) 1 1)) W') : o.wp Tryz.prog a W K Q := by
  have hm := H.out.made 30 (dc m s); unfold Oper.wp execOp; rw [ho]; simp only [List.map_toArray, List.map_cons, List.map_nil, hx]; clear ho hx; simp only [dc] at hm h ⊢; go_simp; exact h _ _ (Lib.hid hm)
end
set_option maxRecDepth 20000 in
set_option maxHeartbeats 2000000 in
theorem picked_any {w : World} (A B : Option Addr) (n c m d : Nat) :
    Calls Tryz.prog 108 #[.slice A n c, .slice B m d] w fun e W => e = .returned (.func (.func 170) #[] #[.pointer (some ⟨w.heap.size, 0, none⟩), .pointer (some ⟨w.heap.size + 1, 0, none⟩)]) ∧ W = (w.alloc (.cells #[.slice A n c] 34)).alloc (.cells #[.slice B m d] 60) := by
  go_enter Tryz.func108, Tryz.ntmps108; go_wp2; go_ret; exact ⟨rfl, rfl⟩
end Go.Proofs.YtngkolcpbgibcaaGreatDoor
namespace Go.Proofs.YtngkolcpbgibcaaGreatDoor
abbrev DP := Int × Nat
inductive NL where
  | ok (l : List DP)
  | no (x : VX)
def nsX : List VX → NL
  | [] => .ok []
  | x :: r => match numX x with
    | .no v => .no v
    | .ok m s => match nsX r with
      | .no v => .no v
      | .ok l => .ok ((m, s) :: l)
theorem nsX_app {a b : List VX} {l : List DP} (h : nsX a = .ok l) : nsX (a ++ b) = match nsX b with | .no v => .no v | .ok k => .ok (l ++ k) := by
  induction a generalizing l with
  | nil =>
    simp only [nsX, NL.ok.injEq] at h; subst h; simp only [List.nil_append]
    cases nsX b <;> rfl
  | cons x r ih =>
    simp only [nsX, List.cons_append] at h ⊢
    cases hx : numX x with
    | no v => rw [hx] at h; cases h
    | ok m s =>
      rw [hx] at h; dsimp only at h ⊢
      cases hr : nsX r with
      | no v => rw [hr] at h; cases h
      | ok q =>
        rw [hr] at h; simp only [NL.ok.injEq] at h; subst h; rw [ih hr]
        cases nsX b <;> rfl
theorem nsX_snoc {a : List VX} {x : VX} {l : List DP} {m : Int} {s : Nat} (h : nsX a = .ok l) (hx : numX x = .ok m s) : nsX (a ++ [x]) = .ok (l ++ [(m, s)]) := by
  rw [nsX_app h]; simp [nsX, hx]
theorem nsX_stop {a : List VX} {x v : VX} {l : List DP} (h : nsX a = .ok l) (hx : numX x = .no v) : nsX (a ++ [x]) = .no v := by
  rw [nsX_app h]; simp [nsX, hx]
theorem nsX_pre {a b : List VX} {v : VX} (h : nsX a = .no v) (hp : a <+: b) : nsX b = .no v := by
  obtain ⟨t, rfl⟩ := hp
  induction a with
  | nil => cases h
  | cons x r ih =>
    simp only [nsX, List.cons_append] at h ⊢
    cases hx : numX x with
    | no u => rw [hx] at h; exact h
    | ok m s =>
      rw [hx] at h; dsimp only at h ⊢
      cases hr : nsX r with
      | no u =>
        rw [hr] at h; simp only [NL.no.injEq] at h; subst h; rw [ih hr]
      | ok q => rw [hr] at h; cases h
theorem nsX_gd : ∀ {l : List VX} {d : List DP}, (∀ x ∈ l, GdX x) → nsX l = .ok d → ∀ p ∈ d, Gd p.1 p.2
  | [], d, _, h, p, hp => by
    simp only [nsX, NL.ok.injEq] at h; subst h
    cases hp
  | x :: r, d, hg, h, p, hp => by
    simp only [nsX] at h
    cases hx : numX x with
    | no u => rw [hx] at h; cases h
    | ok m s =>
      rw [hx] at h; dsimp only at h
      cases hr : nsX r with
      | no u => rw [hr] at h; cases h
      | ok q =>
        rw [hr] at h; simp only [NL.ok.injEq] at h; subst h
        rcases List.mem_cons.1 hp with rfl | hp
        · exact hg x (List.mem_cons_self ..) _ _ hx
        · exact nsX_gd (fun y hy => hg y (List.mem_cons_of_mem _ hy)) hr p hp
theorem nsX_len : ∀ {l : List VX} {d : List DP}, nsX l = .ok d → d.length = l.length
  | [], d, h => by
    simp only [nsX, NL.ok.injEq] at h; subst h; rfl
  | x :: r, d, h => by
    simp only [nsX] at h
    cases hx : numX x with
    | no u => rw [hx] at h; cases h
    | ok m s =>
      rw [hx] at h; dsimp only at h
      cases hr : nsX r with
      | no u => rw [hr] at h; cases h
      | ok q =>
        rw [hr] at h; simp only [NL.ok.injEq] at h; subst h; rw [List.length_cons, List.length_cons, nsX_len hr]
def smK (l : List DP) : Nat → DR
  | 0 => ⟨0, 0, 0⟩
  | k + 1 => if (smK l k).e = 0 then (match l[k]? with | some d => addD (smK l k).m (smK l k).s d.1 d.2 | none => smK l k) else smK l k
theorem smK_next {l : List DP} {k : Nat} {d : DP} (h : (smK l k).e = 0) (hd : l[k]? = some d) : smK l (k + 1) = addD (smK l k).m (smK l k).s d.1 d.2 := by
  rw [smK, if_pos h, hd]
theorem smK_stop {l : List DP} {i : Nat} (h : (smK l i).e ≠ 0) : ∀ j, i ≤ j → smK l j = smK l i
  | 0, hj => by rw [Nat.le_zero.1 hj]
  | j + 1, hj => by
    by_cases e : i = j + 1
    · rw [e]
    · have := smK_stop h j (by omega); rw [smK, this, if_neg h]
theorem smK_gd {l : List DP} (hg : ∀ p ∈ l, Gd p.1 p.2) : ∀ k, (smK l k).e = 0 → Gd (smK l k).m (smK l k).s
  | 0, _ => gd_zero
  | k + 1, h => by
    rw [smK] at h ⊢
    split at h
    · rename_i h0
      rw [if_pos h0]
      cases hd : l[k]? with
      | none => exact smK_gd hg k h0
      | some d =>
        rw [hd] at h; exact (tl_ok (by omega) h).1
    · rename_i h0
      exact absurd h h0
def sumX (op : Int) (l : List DP) : VX :=
  if (smK l l.length).e = 0 then (if op = 4 then reckX (divX (smK l l.length).m (smK l l.length).s l.length 0) else .num (smK l l.length).m (smK l l.length).s) else reckX (smK l l.length)
def sumN (op : Int) : NL → VX
  | .no v => v
  | .ok l => sumX op l
def exK (way : Int) (l : List DP) : Nat → DP
  | 0 => (0, 0)
  | k + 1 => match l[k]? with
    | none => exK way l k
    | some d => if k = 0 ∨ cmp (val d.1 d.2) (val (exK way l k).1 (exK way l k).2) = way then d else exK way l k
theorem exK_gd {way : Int} {l : List DP} (hg : ∀ p ∈ l, Gd p.1 p.2) : ∀ k, Gd (exK way l k).1 (exK way l k).2
  | 0 => gd_zero
  | k + 1 => by
    rw [exK]
    cases hd : l[k]? with
    | none => exact exK_gd hg k
    | some d =>
      dsimp only
      split
      · exact hg d (List.mem_of_getElem? hd)
      · exact exK_gd hg k
theorem exK_next {way : Int} {l : List DP} {k : Nat} {d : DP} (hd : l[k]? = some d) : exK way l (k + 1) = if k = 0 ∨ cmp (val d.1 d.2) (val (exK way l k).1 (exK way l k).2) = way then d else exK way l k := by
  rw [exK, hd]
def exN (way : Int) : NL → VX
  | .no v => v
  | .ok l => .num (exK way l l.length).1 (exK way l l.length).2
def isNB (x : VX) : Bool := match numX x with | .ok _ _ => true | .no _ => false
def cntX (l : List VX) : VX := .num (l.filter isNB).length 0
inductive WL where
  | ok (l : List (List UInt8))
  | no (x : VX)
def wsX : List VX → WL
  | [] => .ok []
  | x :: r => match wrdX x with
    | .no v => .no v
    | .ok b => match wsX r with
      | .no v => .no v
      | .ok l => .ok (b :: l)
theorem wsX_app {a b : List VX} {l : List (List UInt8)} (h : wsX a = .ok l) : wsX (a ++ b) = match wsX b with | .no v => .no v | .ok k => .ok (l ++ k) := by
  induction a generalizing l with
  | nil =>
    simp only [wsX, WL.ok.injEq] at h; subst h; simp only [List.nil_append]
    cases wsX b <;> rfl
  | cons x r ih =>
    simp only [wsX, List.cons_append] at h ⊢
    cases hx : wrdX x with
    | no v => rw [hx] at h; cases h
    | ok c =>
      rw [hx] at h; dsimp only at h ⊢
      cases hr : wsX r with
      | no v => rw [hr] at h; cases h
      | ok q =>
        rw [hr] at h; simp only [WL.ok.injEq] at h; subst h; rw [ih hr]
        cases wsX b <;> rfl
theorem wsX_snoc {a : List VX} {x : VX} {l : List (List UInt8)} {b : List UInt8} (h : wsX a = .ok l) (hx : wrdX x = .ok b) : wsX (a ++ [x]) = .ok (l ++ [b]) := by
  rw [wsX_app h]; simp [wsX, hx]
theorem wsX_stop {a : List VX} {x v : VX} {l : List (List UInt8)} (h : wsX a = .ok l) (hx : wrdX x = .no v) : wsX (a ++ [x]) = .no v := by
  rw [wsX_app h]; simp [wsX, hx]
theorem wsX_pre {a b : List VX} {v : VX} (h : wsX a = .no v) (hp : a <+: b) : wsX b = .no v := by
  obtain ⟨t, rfl⟩ := hp
  induction a with
  | nil => cases h
  | cons x r ih =>
    simp only [wsX, List.cons_append] at h ⊢
    cases hx : wrdX x with
    | no u => rw [hx] at h; exact h
    | ok m =>
      rw [hx] at h; dsimp only at h ⊢
      cases hr : wsX r with
      | no u =>
        rw [hr] at h; simp only [WL.no.injEq] at h; subst h; rw [ih hr]
      | ok q => rw [hr] at h; cases h
def conA (acc t : List UInt8) : List UInt8 := if acc.length ≤ 4000 then acc ++ t else acc
def conN : WL → VX
  | .no v => v
  | .ok l => textX (l.foldl conA [])
end Go.Proofs.YtngkolcpbgibcaaGreatDoor
namespace Go.Proofs.YtngkolcpbgibcaaGreatDoor
open Go.RowKit Go.Shelf
def decF : Form DP where
  k := 2
  R _ _ cs x := cs = dc x.1 (x.2 : Nat)
  len h := by rw [h]; rfl
  move _ h := h
theorem own_nc {α : Type} {f : Form α} {w : World} {F : Nat → Prop} {base B : Nat} {e : TypeId} {v : Value} {L : List α} (h : OwnF f w F base e v L) : ∀ i, v.ownBlock = some i → ¬ Nc B w i := by
  obtain ⟨S, _, _, ho⟩ := h.ex
  rcases ho.2 with ⟨rfl, _⟩ | ⟨g, cap, cur, rfl, _, hg, _⟩
  · intro i hi
    cases hi
  · intro i hi; injection hi with hi; subst hi; rintro ⟨-, o, ho, hc⟩; rw [hg] at ho; injection ho with ho; subst ho
    cases hc
def alnS (w W0 : World) (g0 g1 g2 g3 g5 g6 : Nat) (A : Option Addr) (n c : Nat) (y : VX) (vals : List Value) (W : World) : Prop :=
  BX w [(g6, 32, vc y), (g5, 30, dc 0 (0 : Nat)), (g3, 135, [.slice A n c]), (g2, 4, [.bool false]), (g1, 32, vc (match vals with | _ :: _ :: _ => y | _ => .blank)), (g0, 135, [.slice none 0 0])] W ∧ Keep (fun i => i = g0 ∨ i = g1 ∨ i = g2) W0 W
theorem own_cells {α : Type} {f : Form α} {w : World} {F : Nat → Prop} {base : Nat} {e : TypeId} {v : Value} {L : List α} (h : OwnF f w F base e v L) : ∀ i, v.ownBlock = some i → base ≤ i ∧ ∃ cs fz, w.heap[i]? = some (.cells cs e fz) := by
  obtain ⟨S, _, _, ho⟩ := h.ex
  rcases ho.2 with ⟨rfl, _⟩ | ⟨g, cap, cur, rfl, hb, hg, _⟩
  · intro i hi
    cases hi
  · intro i hi; injection hi with hi; subst hi; exact ⟨hb, _, _, hg⟩
theorem decRow : ElemRow Tryz.prog 135 30 (.agg #[.int .i64 0, .int .i64 0]) 2 16 := by
  obtain ⟨i, hi, h0, h1, h2⟩ := info_parts (P := Tryz.prog) (e := 30) (z := .agg #[.int .i64 0, .int .i64 0]) (size := 2) (bytes := 16) (by kernel_rfl); exact ⟨Tryz.underlying135, ⟨i, hi, h0, h1, h2⟩, rfl, by omega⟩
theorem app_d {o : Oper} {a : Act} {W : World} {K : Act → World → Prop} {Q : Exit → Act → World → Prop} {base g n c : Nat} {A : Option Addr} {ds : List DP} {m : Int} {s : Nat} (h : OwnF decF W (fun _ => False) base 30 (.slice A n c) ds) (hb : Bk W g 30 (dc m (s : Nat)).toArray) (hbase : base ≤ W.heap.size) (hlen : ds.length ≤ 1000000000000)
    (x y : Operand) (ho : o.op = .call { callee := .builtin .append, args := #[x, y], argTypes := #[135, 135] }) (hx : a.eval x = .slice A n c) (hy : a.eval y = .slice (some ⟨g, 0, none⟩) 1 1)
    (hk : ∀ A' n' c' W', OwnF decF W' (fun _ => False) base 30 (.slice A' n' c') (ds ++ [(m, s)]) → Keep (fun i => (Value.slice A n c).ownBlock = some i) W W' → K (a.put o.dst (.slice A' n' c')) W') : o.wp Tryz.prog a W K Q := by
  obtain ⟨S, h1, h2, hown⟩ := h.ex; have hrd : Rd W W.heap.size 2 (some ⟨g, 0, none⟩) 1 (dc m (s : Nat)) := ⟨rfl, fun _ => ⟨_, rfl, hb.lt, fun j u hu => by rw [addr_zero, hb.cell]; simpa using hu⟩⟩
  refine wp_app decRow x y ho hx hy hown hrd (dc_one _ _) (by unfold maxLen; omega) (by omega) hbase ?_; intro v' W' ho' hg hb'; have hO : OwnF decF W' (fun _ => False) base 30 v' (ds ++ [(m, s)]) := OwnF.snoc h1 h2 (fun _ h => h.elim) rfl ho'; obtain ⟨A', c', rfl, _⟩ := hO.form; exact hk A' _ c' W' hO (Keep.of_grew hg fun i hi => hi.symm)
theorem bx_past {w W W' : World} {bs : Bxs} {T : Nat → Prop} (h : BX w bs W) (hk : Keep T W W') (hw : w.heap.size ≤ W.heap.size) (hT : ∀ b ∈ bs, ¬ T b.1) (hT0 : ∀ i, T i → w.heap.size ≤ i) : BX w bs W' :=
  ⟨h.bel.trans (hk.below hw fun i hi ht => by have := hT0 i ht; omega), h.lo, fun b hb => hk.bk (h.bk b hb) (hT b hb), h.nd⟩
theorem bx4_old {n2 g0 g1 g2 g3 : Nat} {t0 t1 t2 t3 : TypeId} {c0 c1 c2 c3 d3 d1 : List Value} (h : ∀ b ∈ [(g3, t3, c3), (g2, t2, c2), (g1, t1, c1), (g0, t0, c0)], b.1 < n2) {b : Nat × TypeId × List Value} (hb : b ∈ [(g3, t3, d3), (g2, t2, c2), (g1, t1, d1), (g0, t0, c0)]) : b.1 < n2 := by
  simp only [List.mem_cons, List.not_mem_nil, or_false] at hb
  rcases hb with rfl | rfl | rfl | rfl
  · exact h (g3, t3, c3) (by simp)
  · exact h (g2, t2, c2) (by simp)
  · exact h (g1, t1, c1) (by simp)
  · exact h (g0, t0, c0) (by simp)
theorem keepD {W W' : World} {D g : Nat} {t : TypeId} {cs : Array Value} (hK : W.heap[D]? = some (.deferred (some []))) (hk : Keep (fun j => j = g) W W') (hb : Bk W g t cs) : W'.heap[D]? = some (.deferred (some [])) := by
  rw [hk.block D (Array.getElem?_eq_some_iff.1 hK).1 fun e => ?_]
  · exact hK
  · subst e; unfold Bk at hb; rw [hb] at hK
    cases hK
theorem belowD {W W' : World} {D : Nat} (hK : W.heap[D]? = some (.deferred (some []))) (hb : Below W.heap.size W W') : W'.heap[D]? = some (.deferred (some [])) := by
  rw [hb.block D (Array.getElem?_eq_some_iff.1 hK).1]; exact hK
theorem BX.load_l {w W : World} {bs : Bxs} {g : Nat} {u : Value} (H : BX w bs W) (i : Nat) (hi : bs[i]? = some (g, 135, [u])) : (loadVar 135 ⟨g, 0, none⟩).run Tryz.prog W = .ok u W := by
  have c := H.cell hi 0; clear H hi; go_simp
theorem BX.load_b {w W : World} {bs : Bxs} {g : Nat} {u : Value} (H : BX w bs W) (i : Nat) (hi : bs[i]? = some (g, 4, [u])) : (loadVar 4 ⟨g, 0, none⟩).run Tryz.prog W = .ok u W := by
  have c := H.cell hi 0; clear H hi; go_simp
theorem res_lvb {fn : Func} {q0 q1 q2 : Tmp} (h : fn.results = #[.cell q0 135, .cell q1 32, .cell q2 4]) {tmps : Array Value} {w W : World} {bs : Bxs} {g0 g1 g2 : Nat} {x z : Value} {v : VX} (H : BX w bs W) (i0 i1 i2 : Nat) (hi0 : bs[i0]? = some (g0, 135, [x])) (hi1 : bs[i1]? = some (g1, 32, vc v)) (hi2 : bs[i2]? = some (g2, 4, [z]))
    (h0 : tmps.getD q0 undef = .pointer (some ⟨g0, 0, none⟩)) (h1 : tmps.getD q1 undef = .pointer (some ⟨g1, 0, none⟩)) (h2 : tmps.getD q2 undef = .pointer (some ⟨g2, 0, none⟩)) :
    (results fn tmps).run Tryz.prog W = .ok (.tuple #[x, .agg (vc v).toArray, z]) W := by
  have h0' : tmps[q0]?.getD undef = .pointer (some ⟨g0, 0, none⟩) := by simpa using h0
  have h1' : tmps[q1]?.getD undef = .pointer (some ⟨g1, 0, none⟩) := by simpa using h1
  have h2' : tmps[q2]?.getD undef = .pointer (some ⟨g2, 0, none⟩) := by simpa using h2
  simp [results, h, h0', h1', h2', asAddr, H.load_v i1 hi1, H.load_l i0 hi0, H.load_b i2 hi2]
def RdB (rows : Bxs) (A : Option Addr) (d : List DP) : Prop := ∀ V : World, (∀ b ∈ rows, Bk V b.1 b.2.1 b.2.2.toArray) → ∀ (i : Nat) (x : DP), d[i]? = some x → ∃ a, A = some a ∧ ∀ (j : Nat) (u : Value), (dc x.1 (x.2 : Nat))[j]? = some u → V.cell? ((a.add (i * 2)).add j) = some u
structure RowB (b0 : Nat) (W : World) (rows : Bxs) (A : Option Addr) (d : List DP) : Prop where
  lo : ∀ b ∈ rows, b0 ≤ b.1
  bk : ∀ b ∈ rows, Bk W b.1 b.2.1 b.2.2.toArray
  nd : (rows.map (·.1)).Nodup
  rd : RdB rows A d
theorem own_rowB {W : World} {F : Nat → Prop} {base b0 n c : Nat} {A : Option Addr} {d : List DP} (h : OwnF decF W F base 30 (.slice A n c) d) (hb : b0 ≤ base) : ∃ rows, RowB b0 W rows A d := by
  obtain ⟨S, h1, h2, ho⟩ := h.ex
  rcases ho.2 with ⟨e, hn⟩ | ⟨g, cap, cur, e, hbg, hg, hnc, hm, hs, ht⟩
  · have : d = [] := List.eq_nil_of_length_eq_zero hn; subst this; exact ⟨[], by simp, by simp, by simp, fun V _ i x hx => by simp at hx⟩
  · injection e with e1 e2 e3; subst e1; refine ⟨[(g, 30, cur.toList)], ?_, ?_, by simp, ?_⟩
    · intro b hb'; simp only [List.mem_singleton] at hb'; subst hb'; exact Nat.le_trans hb hbg
    · intro b hb'; simp only [List.mem_singleton] at hb'; subst hb'; unfold Bk
      simpa using hg
    · intro V hV i x hx; have hbk := hV (g, 30, cur.toList) (List.mem_singleton.2 rfl); refine ⟨_, rfl, fun j u hu => ?_⟩; rw [← h1, List.getElem?_map, Option.map_eq_some_iff] at hx; obtain ⟨p, hp, rfl⟩ := hx; have hp' : p.1 = dc p.2.1 (p.2.2 : Nat) := h2 p (List.mem_of_getElem? hp); rw [← hp'] at hu; have hf := flat_get (k := 2) (fun q hq => decF.len (h2 q hq)) hp hu; rw [← ht] at hf; rw [add_add, addr_zero, hbk.cell]; rw [List.getElem?_take] at hf
      split at hf
      · simpa using hf
      · cases hf
theorem RowB.grown {b0 : Nat} {W : World} {rows : Bxs} {A : Option Addr} {d : List DP} (h : RowB b0 W rows A d) {B : Nat} {W' : World} (hk : Keep (Nc B W) W W') : RowB b0 W' rows A d :=
  ⟨h.lo, fun b hb => hk.bk (h.bk b hb) (nc_bk (h.bk b hb)), h.nd, h.rd⟩
theorem BX.tail {w W W' : World} {bs rows : Bxs} {A : Option Addr} {d : List DP} (h : BX w bs W) (hb : Below W.heap.size W W') (hr : RowB W.heap.size W' rows A d) : BX w (bs ++ rows) W' := by
  have ho := h.call hb; refine ⟨ho.bel, fun b hm => ?_, fun b hm => ?_, ?_⟩
  · rcases List.mem_append.1 hm with hm | hm
    · exact h.lo b hm
    · exact Nat.le_trans h.bel.size (hr.lo b hm)
  · rcases List.mem_append.1 hm with hm | hm
    · exact ho.bk b hm
    · exact hr.bk b hm
  · rw [List.map_append, List.nodup_append]; refine ⟨h.nd, hr.nd, fun x hx y hy e => ?_⟩; obtain ⟨b, hbm, rfl⟩ := List.mem_map.1 hx; obtain ⟨c, hcm, rfl⟩ := List.mem_map.1 hy; have h1 := (h.bk b hbm).lt; have h2 := hr.lo c hcm; omega
theorem ldm_d {o : Oper} {a : Act} {W : World} {K : Act → World → Prop} {Q : Exit → Act → World → Prop} {q : Addr} (m s : Int) (x : Operand) (ho : o.op = .load 30 x) (hx : a.eval x = .pointer (some q)) (hb : ∀ (j : Nat) (u : Value), (dc m s)[j]? = some u → W.cell? (q.add j) = some u) (h : K (a.put o.dst (.agg (dc m s).toArray)) W) : o.wp Tryz.prog a W K Q :=
  ldm_g (show RowT 30 (dc m s).length from rtDec) x ho hx hb h
end Go.Proofs.YtngkolcpbgibcaaGreatDoor
namespace Go.Proofs.YtngkolcpbgibcaaGreatDoor
open Go.RowKit
theorem valRow : ElemRow Tryz.prog 53 32 (.agg (vc .blank).toArray) 6 56 := by
  obtain ⟨i, hi, h0, h1, h2⟩ := info_parts (P := Tryz.prog) (e := 32) (z := .agg (vc .blank).toArray) (size := 6) (bytes := 56) (by kernel_rfl); exact ⟨Tryz.underlying53, ⟨i, hi, h0, h1, h2⟩, rfl, by omega⟩
theorem app_v {o : Oper} {a : Act} {W : World} {K : Act → World → Prop} {Q : Exit → Act → World → Prop} {base g n c : Nat} {A : Option Addr} {l : List VX} {x : VX} (h : OwnF valF W (fun _ => False) base 32 (.slice A n c) l) (hb : Bk W g 32 (vc x).toArray) (hbase : base ≤ W.heap.size) (hlen : l.length ≤ 1000000000)
    (s y : Operand) (ho : o.op = .call { callee := .builtin .append, args := #[s, y], argTypes := #[53, 53] }) (hs : a.eval s = .slice A n c) (hy : a.eval y = .slice (some ⟨g, 0, none⟩) 1 1)
    (hk : ∀ A' n' c' W', OwnF valF W' (fun _ => False) base 32 (.slice A' n' c') (l ++ [x]) → Keep (fun i => (Value.slice A n c).ownBlock = some i) W W' → K (a.put o.dst (.slice A' n' c')) W') : o.wp Tryz.prog a W K Q := by
  obtain ⟨S, h1, h2, hown⟩ := h.ex; have hrd : Rd W W.heap.size 6 (some ⟨g, 0, none⟩) 1 (vc x) := ⟨vc_len x, fun _ => ⟨_, rfl, hb.lt, fun j u hu => by rw [addr_zero, hb.cell]; simpa using hu⟩⟩
  refine wp_app valRow s y ho hs hy hown hrd (vc_one _) (by unfold maxLen; omega) (by omega) hbase ?_; intro v' W' ho' hg hb'; have hO : OwnF valF W' (fun _ => False) base 32 v' (l ++ [x]) := OwnF.snoc h1 h2 (fun _ h => h.elim) rfl ho'; obtain ⟨A', c', rfl, _⟩ := hO.form; exact hk A' _ c' W' hO (Keep.of_grew hg fun i hi => hi.symm)
def oneV (a : Bool × List VX) : VX := a.2.headD .blank
set_option maxRecDepth 20000 in
set_option maxHeartbeats 4000000 in
theorem values_any {w : World} {A : Option Addr} {c : Nat} {args : List (Bool × List VX)} (h : RowF argF w (· < w.heap.size) A args.length args) (hn : args.length ≤ 1000000) (h1 : ∀ a ∈ args, a.2.length = 1) :
    Calls Tryz.prog 51 #[.slice A args.length c] w fun e W => ∃ A' c', e = .returned (.slice A' args.length c') ∧ args.length ≤ c' ∧ RowF valF W (· < W.heap.size) A' args.length (args.map oneV) ∧ Below w.heap.size w W := by
  have HO := Lib.hid (OwnF.nil valF w (fun _ => False) w.heap.size 32); have H1 := Lib.hid h1; have HZ := Lib.hid (BX.start w); clear h1; go_enter Tryz.func51, Tryz.ntmps51; go_wp2
  go_loopw [3, 8] (fun v i wr => ∃ (k : Nat) (A' : Option Addr) (n' c' : Nat), v = .slice A' n' c' ∧ k ≤ args.length ∧ i = .int .i64 k ∧ Hid (BX w [] wr) ∧ Hid (OwnF valF wr (fun _ => False) w.heap.size 32 (.slice A' n' c') ((args.take k).map oneV))) (fun _ i _ => args.length - (intOf i).toNat)
  case atStart => exact ⟨0, none, 0, 0, rfl, Nat.zero_le _, rfl, HZ, by simpa using HO⟩
  case round =>
    clear HO HZ; obtain ⟨k, A', n', c', rfl, hk, rfl, HZ, HO⟩ := hrel
    by_cases hlt : k < args.length
    · have hlt' : (k : Int) < (args.length : Int) := by omega
      have hk0 : (0 : Int) ≤ (k : Int) := by omega
      obtain ⟨⟨b, vs⟩, hx⟩ : ∃ x, args[k]? = some x := ⟨_, List.getElem?_eq_getElem hlt⟩
      have hv1 := H1.out _ (List.mem_of_getElem? hx)
      obtain ⟨y, rfl⟩ : ∃ y, vs = [y] := by
        match vs, hv1 with
        | [y], _ => exact ⟨y, rfl⟩
      obtain ⟨aa, rfl, hall⟩ := args_all h (by omega); obtain ⟨A1, c4, hA⟩ := hall k _ hx; have HA := Lib.hid (hA.below HZ.out.bel); obtain ⟨a1, rfl, -, hav⟩ := HA.out.one; have HV := Lib.hid hav; have HS : Hid ((args.take (k + 1)).map oneV = (args.take k).map oneV ++ [y]) := Lib.hid (by rw [List.take_add_one, hx]; simp [oneV]); have HB := Lib.hid (BX.start wr); clear hall hA hx hv1 hav
      repeat' (first | ((with_reducible show Oper.wp _ _ _ _ _ _); refine stop_ld (ty := 55) _ rfl ?_) | go_values | go_skip | go_guarded | go_step | go_upon)
      refine Lib.hid ?_; refine ldm_a b (some a1) 1 c4 _ rfl rfl (by exact HA.out.cell) ?_; go_simp
      repeat' (first | ((with_reducible show Oper.wp _ _ _ _ _ _); (first | (refine al_a HB rfl ?_; clear HB; intro g0 W HB; go_simp) | (refine st_a 0 HB rfl _ _ rfl rfl rfl ?_; clear HB; intro W HB; dsimp only [List.set] at HB; go_simp) | (refine lf_vals 0 HB rfl _ rfl rfl rfl ?_; go_simp) | refine stop_ld (ty := 32) _ rfl ?_)) | go_values | go_skip | go_guarded | go_step | go_upon)
      refine Lib.hid ?_; refine ldm_v y _ rfl rfl (HV.out _ HB.out.bel) ?_; go_simp
      repeat' (first | ((with_reducible show Oper.wp _ _ _ _ _ _); apply stop_bs; exact rfl) | go_values | go_skip | go_guarded | go_step | go_upon)
      refine Lib.hid ?_; refine bs_v HB _ rfl rfl ?_; clear HB; intro g7 W HB; go_simp
      repeat' (first | ((with_reducible show Oper.wp _ _ _ _ _ _); apply stop_app; exact rfl) | go_values | go_skip | go_guarded | go_step | go_upon)
      have hWn : w.heap.size ≤ W.heap.size := Nat.le_trans HZ.out.bel.size HB.out.bel.size; have HOW : Hid (OwnF valF W (fun _ => False) w.heap.size 32 (.slice A' n' c') ((args.take k).map oneV)) := Lib.hid (HO.out.keep (Keep.of_below HB.out.bel fun i hi hb => show False by omega) (fun _ _ h => h) (fun _ h => h.elim)); refine Lib.hid ?_; refine app_v HOW.out (HB.out.get (i := 0) rfl) hWn (by rw [List.length_map, List.length_take]; omega) _ _ rfl rfl rfl ?_; intro A2 n2 c2 W2 hO2 hK2; have HO2 := Lib.hid hO2; have HZ2 : Hid (BX w [] W2) := Lib.hid (bx_past (HZ.out.call HB.out.bel) hK2 hWn (by simp) fun i hi => (own_cells HOW.out _ hi).1); clear hO2 hK2; go_simp
      repeat' (first | go_values | go_skip | go_guarded | go_step | go_upon)
      go_roundw
      case rel => exact ⟨k + 1, A2, n2, c2, rfl, by omega, by go_num, HZ2, by rw [HS.out]; exact HO2⟩
      case measure => simp [intOf]; omega
    · obtain rfl : k = args.length := by omega
      rw [List.take_length] at HO
      repeat' (first | go_values | go_skip | go_guarded | go_step | go_upon)
      go_ret; obtain ⟨A4, c4, e4, h4, hr⟩ := HO.out.read (F' := (· < wr.heap.size)) (fun i hi => (HO.out.lt i hi).2) (fun _ h => h.elim); rw [List.length_map] at e4 h4 hr; exact ⟨A4, c4, by rw [← e4]; rfl, h4, hr, HZ.out.bel⟩
end Go.Proofs.YtngkolcpbgibcaaGreatDoor
namespace Go.Proofs.YtngkolcpbgibcaaGreatDoor
open Go.RowKit Go.Shelf
def isDf : Op → Bool
  | .defer _ => true
  | _ => false
theorem df_of {ops : Array Oper} (h : ops.all (fun o => !isDf o.op) = true) : ∀ (i : Nat) (o : Oper), ops[i]? = some o → ∀ c, o.op ≠ .defer c := by
  intro i o ho c e; rw [Array.all_eq_true] at h; obtain ⟨hi, e2⟩ := Array.getElem?_eq_some_iff.1 ho; have := h i hi; rw [e2, e] at this
  cases this
theorem any_in {l n : Nat} {md : Region.Mode} {ops : Array Oper} {Q : Exit → Act → World → Prop} (hd : ∀ (i : Nat) (o : Oper), ops[i]? = some o → ∀ c, o.op ≠ .defer c) (hQ : ¬ LetsOut Q) : ∀ (fuel : Nat) (listed : Array Bool) (a : Act) (w : World), wpAny Tryz.prog md ops Q fuel listed a w → wpAnyIn (Fence.wide.inRound l) n Tryz.prog md ops Q fuel listed a w
  | 0, _, _, _, h => h
  | fuel + 1, listed, a, w, h => by
    refine ⟨h.1, fun i hi => ?_⟩; have h2 := h.2 i hi; unfold wpOp at h2; unfold wpOpIn
    cases ho : ops[i]? with
    | none =>
      rw [ho] at h2; exact any_in hd hQ fuel _ _ _ h2
    | some o =>
      rw [ho] at h2; dsimp only at h2 ⊢
      split
      · rename_i hw
        rw [if_pos hw] at h2
        rcases h2 with h2 | h2
        · exact in_wp (hd i o ho) (Oper.wp_mono (fun a w => any_in hd hQ fuel _ a w) h2)
        · exact absurd h2.2 hQ
      · rename_i hw
        rw [if_neg hw] at h2; exact ⟨fun _ _ => trivial, any_in hd hQ fuel _ _ _ h2⟩
section
variable {ops : Array Oper} {Q : Exit → Act → World → Prop} {S : List Value → World → Prop} {E : World → World → Prop}
theorem wp_region_phases_in {l n : Nat} {id : Nat} {a0 : Act} {w0 : World} (hQ : ¬ LetsOut Q) (hd : ops.all (fun o => !isDf o.op) = true) (ph : List Nat) (l0 l1 : List (Nat × (Value → World → Prop))) (k : List Spec)
    (hm : Tryz.prog.follows .mixedOrders = true) (hs : settledB ops a0.tmps.size = true) (hp : phasesB ops ph = true) (hk : specsB ops ph 0 ops.toList k = true)
    (hq : quietB ops ph a0.tmps.size ((l0 ++ l1).map (·.1)) = true)
    (hw : (l1.all fun p => decide (a0.tmps.size ≤ p.1) || ops.toList.any fun o => o.dst == some p.1) = true) (hst : StableAll E (l0 ++ l1)) (hst0 : StartAll a0 w0.drew l0) (hS : S [] w0.drew)
    (hob : ObsP Tryz.prog S E (tab (l0 ++ l1)) a0.tmps.size ops.toList k)
    (hfin : ∀ a w vals, a.defers = a0.defers → a.tmps.size = a0.tmps.size → (∀ t, t < a0.tmps.size → tab (l0 ++ l1) t (a.tmps.getD t undef) w) → (∀ j o, ops[j]? = some o → o.dst = none → tab (l0 ++ l1) (a0.tmps.size + j) undef w) →
      vals.length = ph.length → PFacts ops ph vals a → S vals w → Q .normal a w) :
    (Code.region id ops true).wpIn (Fence.wide.inRound l) n Tryz.prog Q a0 w0 := by
  have hall := specs_at hk hob; refine wpIn_region_any hm (any_in (df_of hd) hQ _ _ _ _ (phases_any (S := S) (T := tab (l0 ++ l1)) hs hp (stable_tab hst) ?_ ?_ ?_ hfin ops.size _ a0 _ (by simp) ?_ ⟨⟨rfl, rfl, fun t ht hfree => ?_, fun j o hj _ hl => ?_⟩, [], by simp, ?_, ?_, hS⟩))
  · intro i hi o ho; unfold quietB at hq; rw [List.all_eq_true] at hq; have := hq i hi; rw [ho] at this; refine ⟨fun t ht u w => ?_, fun hd u w => ?_⟩
    · simp only [ht] at this; exact tab_free (by simpa using this) u w
    · simp only [hd] at this; exact tab_free (by simpa using this) u w
  · intro i o hi ho vals
    rcases hall i o (by simpa using ho) with ⟨lk, g, h1, h2, h3⟩ | ⟨n, lk, s, h1, _⟩
    · have := obs_of (P := Tryz.prog) (S := S vals) (E := E) (T := tab (l0 ++ l1)) (v := a0.tmps.size + i) h2 ⟨h3 vals, trivial⟩; exact this.1
    · rw [Nat.zero_add] at h1; exact absurd (List.mem_of_getElem? h1) hi
  · intro n i o hi ho a w vals hv hSv hl hpf
    rcases hall i o (by simpa using ho) with ⟨lk, g, h1, h2, h3⟩ | ⟨n', lk, s, h1, h2, h3, h4⟩
    · rw [Nat.zero_add] at h1; exact absurd (List.mem_of_getElem? hi) h1
    · rw [Nat.zero_add] at h1; obtain ⟨o', _, hph'⟩ := phased_of hp hi; have := hph'.once n' h1; subst this; refine h4 a w vals hv hSv (facts_of fun t ht => hl t (h2 t ht)) ?_
      have : ∀ s' : List (Nat × Tmp), (∀ x ∈ s', x ∈ s) → PSlots vals a s' := by
        intro s'
        induction s' with
        | nil => intro _; trivial
        | cons x r ih =>
          intro hx; obtain ⟨i', oi, q1, q2, q3⟩ := h3 x (hx x (List.mem_cons_self ..)); exact ⟨fun hlt => hpf x.1 i' oi x.2 q1 hlt q2 q3, ih fun y hy => hx y (List.mem_cons_of_mem _ hy)⟩
      exact this s fun _ h => h
  · refine Nat.le_trans (List.length_filter_le _ _) ?_; simp
  · unfold tab
    cases hf : (l0 ++ l1).find? (fun p => p.1 == t) with
    | none => trivial
    | some p =>
      have hpt : p.1 = t := by simpa using List.find?_some hf
      rcases List.mem_append.1 (List.mem_of_find?_eq_some hf) with h | h
      · have := start_mem hst0 p h; rw [hpt] at this; exact this
      · exfalso; rw [List.all_eq_true] at hw; have := hw p h; simp only [Bool.or_eq_true, decide_eq_true_eq, List.any_eq_true, beq_iff_eq, Array.mem_toList_iff] at this
        rcases this with hge | ⟨o, ho, hd⟩
        · omega
        · obtain ⟨j, hj⟩ := Array.getElem?_of_mem ho; have := hfree j o hj (by rw [hd, hpt]); have hlt := (Array.getElem?_eq_some_iff.1 hj).1; simp [Array.getD_eq_getD_getElem?, hlt] at this
  · have hlt := (Array.getElem?_eq_some_iff.1 hj).1; simp [Array.getD_eq_getD_getElem?, hlt] at hl
  · intro k2 i2 h2; obtain ⟨o, ho, _⟩ := phased_of hp h2; have hlt := (Array.getElem?_eq_some_iff.1 ho).1; simp [Array.getD_eq_getD_getElem?, hlt]
  · intro k2 i2 o2 t2 _ hlt; simp at hlt
end
section
variable {o : Oper} {a : Act} {w W Wr : World} {bs inner outer : Bxs} {g i : Nat} {u0 : Value}
theorem run_sts_l {A : Option Addr} {n cp : Nat} (H : BX w bs W) (hi : bs[i]? = some (g, 135, [u0])) (x y : Operand) (ho : o.op = .store 135 x y) (hx : a.eval x = .pointer (some ⟨g, 0, none⟩)) (hy : a.eval y = .slice A n cp) : (execOp a.eval o).run Tryz.prog W = .ok .skip (W.setCell ⟨g, 0, none⟩ (.slice A n cp)) := by
  have c := H.cell hi 0; have f := H.frozen hi 0; unfold execOp; rw [ho]; simp only [hx, hy]; clear ho hx hy; go_simp
theorem run_sts_b {b : Bool} (H : BX w bs W) (hi : bs[i]? = some (g, 4, [u0])) (x y : Operand) (ho : o.op = .store 4 x y) (hx : a.eval x = .pointer (some ⟨g, 0, none⟩)) (hy : a.eval y = .bool b) : (execOp a.eval o).run Tryz.prog W = .ok .skip (W.setCell ⟨g, 0, none⟩ (.bool b)) := by
  have c := H.cell hi 0; have f := H.frozen hi 0; unfold execOp; rw [ho]; simp only [hx, hy]; clear ho hx hy; go_simp
theorem run_sts_v {v0 v : VX} (H : BX w bs W) (hi : bs[i]? = some (g, 32, vc v0)) (x y : Operand) (ho : o.op = .store 32 x y) (hx : a.eval x = .pointer (some ⟨g, 0, none⟩)) (hy : a.eval y = .agg (vc v).toArray) : (execOp a.eval o).run Tryz.prog W = .ok .skip (W.setCells g 0 (vc v)) := by
  have hb := H.get hi
  have ht : W.there g 0 (vc v).toArray.size := fun j hj => by
    rw [List.size_toArray, vc_len] at hj; rw [Nat.zero_add, hb.cell, hb.frozen]; exact ⟨by simp [vc_len]; omega, rfl⟩
  unfold execOp; simp only [ho, hx, hy, Instr.storeAt, Instr.sureAddr, Sem.run_bind, Sem.run_pure, Result.andThen_ok, run_storeVar_mid (P := Tryz.prog) W g 0 32 (vc v).toArray ht (by rw [List.size_toArray]; exact rtV.size) (all_oneCell_toArray (vc_one v))]
theorem bk_setv {v0 v : VX} (hb : Bk W g 32 (vc v0).toArray) : Bk (W.setCells g 0 (vc v)) g 32 (vc v).toArray := by
  have h2 := setCells_bk (vc v) 0 (vc v0) W hb (by rw [vc_len, vc_len]; omega); have e : (vc v0).take 0 ++ vc v ++ (vc v0).drop (0 + (vc v).length) = vc v := by simp [List.drop_eq_nil_of_le (Nat.le_of_eq ((vc_len v0).trans (vc_len v).symm))]
  rwa [e] at h2
theorem lands_s {P : Program} {S : World → Prop} {E : World → World → Prop} {R : Value → World → Prop} {W' : World} (h : (execOp a.eval o).run P W = .ok .skip W') (hR : R undef W' ∧ S W' ∧ E W W') : Lands P S E R W ((execOp a.eval o).run P W) := by
  rw [h]; exact hR
theorem BX.join (h : BX w outer Wr) (k : BX Wr inner W) : BX w (inner ++ outer) W := by
  have ho := h.call k.bel; refine ⟨ho.bel, fun b hb => ?_, fun b hb => ?_, ?_⟩
  · rcases List.mem_append.1 hb with hb | hb
    · exact Nat.le_trans h.bel.size (k.lo b hb)
    · exact h.lo b hb
  · rcases List.mem_append.1 hb with hb | hb
    · exact k.bk b hb
    · exact ho.bk b hb
  · rw [List.map_append, List.nodup_append]; refine ⟨k.nd, h.nd, fun x hx y hy e => ?_⟩; obtain ⟨b, hb, rfl⟩ := List.mem_map.1 hx; obtain ⟨c, hc, rfl⟩ := List.mem_map.1 hy; have h1 := k.lo b hb; have h2 := (h.bk c hc).lt; omega
end
end Go.Proofs.YtngkolcpbgibcaaGreatDoor
