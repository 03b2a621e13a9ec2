/- Steps of the walk inside a fence: structs as wholes, cells at addresses. No condition. -/
/- fun.picked's iterator by its contract: which values of Args come, in order. Condition: the body leaves the iterator's memory as it was. -/
import Derived.Test.YtngkolcpbgibcaaGreatDoorF4
import Derived.RangeFuncNested
import Derived.RangeFuncBound
import Derived.RangeFuncCalls
import Derived.RangeFuncLeaves
import Derived.Shelf.Abstract
import Derived.Shelf.RegionOpen
import Derived.WalkKit
import Derived.OwnWalkIn
import Derived.TacticsInMore
import Derived.LoopNIn
import Derived.LoopIn
import Derived.Test.YtngkolcpbgibcaaGreatDoorJoin
set_option linter.unusedVariables false
set_option linter.unusedSimpArgs false
namespace Go.Proofs.YtngkolcpbgibcaaGreatDoor
open Go.RowKit
section
variable {F : Fence} {n : Nat} {o : Oper} {a : Act} {W W' : World} {K : Act → World → Prop} {Q : Exit → Act → World → Prop} {ty : TypeId} {cs vs : List Value} {g : Nat} {q : Addr} {u v : Value}
theorem inV (hF : ∀ f, F.fn f) (hd : ∀ c, o.op ≠ .defer c) (hr : (execOp a.eval o).run Tryz.prog W = .ok (.value v) W') (h : K (a.put o.dst v) W') : o.wpIn F n Tryz.prog a W K Q := by
  unfold Oper.wpIn; refine ⟨fun f _ => hF f, ?_⟩; rw [Oper.semAt_plain F _ _ hd, hr]; exact h
theorem inS (hF : ∀ f, F.fn f) (hd : ∀ c, o.op ≠ .defer c) (hr : (execOp a.eval o).run Tryz.prog W = .ok .skip W') (h : K (a.put o.dst undef) W') : o.wpIn F n Tryz.prog a W K Q := by
  unfold Oper.wpIn; refine ⟨fun f _ => hF f, ?_⟩; rw [Oper.semAt_plain F _ _ hd, hr]; exact h
theorem ldI (hF : ∀ f, F.fn f) (T : RowT ty cs.length) (x : Operand) (ho : o.op = .load ty x) (hx : a.eval x = .pointer (some q)) (hb : ∀ (j : Nat) (u : Value), cs[j]? = some u → W.cell? (q.add j) = some u) (h : K (a.put o.dst (.agg cs.toArray)) W) : o.wpIn F n Tryz.prog a W K Q :=
  inV hF (by rw [ho]; intro c hc; cases hc) (run_ldm T hb x ho hx) h
theorem stI (hF : ∀ f, F.fn f) (T : RowT ty vs.length) (h1 : ∀ u ∈ vs, u.oneCell' = true) (hb : Bk W g ty cs.toArray) (hl : cs.length = vs.length) (x y : Operand) (ho : o.op = .store ty x y) (hx : a.eval x = .pointer (some ⟨g, 0, none⟩)) (hy : a.eval y = .agg vs.toArray)
    (h : ∀ W', Bk W' g ty vs.toArray → Keep (fun i => i = g) W W' → K (a.put o.dst undef) W') : o.wpIn F n Tryz.prog a W K Q := by
  have ht : W.there g 0 vs.toArray.size := fun j hj => by
    rw [List.size_toArray] at hj; rw [Nat.zero_add, hb.cell, hb.frozen]; exact ⟨by simp; omega, rfl⟩
  have hr : (execOp a.eval o).run Tryz.prog W = .ok .skip (W.setCells g 0 vs) := by
    unfold execOp; simp only [ho, hx, hy, Instr.storeAt, Instr.sureAddr, Sem.run_bind, Sem.run_pure, Result.andThen_ok, run_storeVar_mid W g 0 ty vs.toArray ht (by rw [List.size_toArray]; exact T.size) (all_oneCell_toArray h1)]
  have h2 := setCells_bk vs 0 cs W hb (by omega); have e : cs.take 0 ++ vs ++ cs.drop (0 + vs.length) = vs := by simp [List.drop_eq_nil_of_le (Nat.le_of_eq hl)]
  rw [e] at h2; exact inS hF (by rw [ho]; intro c hc; cases hc) hr (h _ h2 (setCells_keep _ _ _))
theorem stopI_ld (ty : TypeId) (x : Operand) (ho : o.op = .load ty x) (h : Hid (o.wpIn F n Tryz.prog a W K Q)) : o.wpIn F n Tryz.prog a W K Q := h.out
theorem stopI_st (ty : TypeId) (x y : Operand) (ho : o.op = .store ty x y) (h : Hid (o.wpIn F n Tryz.prog a W K Q)) : o.wpIn F n Tryz.prog a W K Q := h.out
end
def Scl (ty : TypeId) : Prop := ∀ (W : World) (q : Addr) (u : Value), W.cell? q = some u → (loadVar ty q).run Tryz.prog W = .ok u W
theorem sclInt : Scl 3 := fun W q u h => by unfold loadVar; go_simp
theorem sclBool : Scl 4 := fun W q u h => by unfold loadVar; go_simp
theorem sclVals : Scl 53 := fun W q u h => by unfold loadVar; go_simp
theorem sclArgs : Scl 34 := fun W q u h => by unfold loadVar; go_simp
theorem sclInts : Scl 60 := fun W q u h => by unfold loadVar; go_simp
theorem lfI {F : Fence} {n : Nat} {o : Oper} {a : Act} {W : World} {K : Act → World → Prop} {Q : Exit → Act → World → Prop} {ty : TypeId} {q : Addr} {u : Value} (hF : ∀ f, F.fn f) (T : Scl ty) (x : Operand) (ho : o.op = .load ty x) (hx : a.eval x = .pointer (some q)) (hc : W.cell? q = some u) (h : K (a.put o.dst u) W) : o.wpIn F n Tryz.prog a W K Q := by
  have hr : (execOp a.eval o).run Tryz.prog W = .ok (.value u) W := by
    unfold execOp; simp only [ho, hx, Instr.loadAt, Instr.sureAddr, Sem.run_bind, Sem.run_pure, Result.andThen_ok, T W q u hc]
  exact inV hF (by rw [ho]; intro c hc; cases hc) hr h
theorem grown_new {W W' : World} {cs : Array Value} {ty : TypeId} (hK : Keep (fun i => i = W.heap.size) (W.alloc (.cells cs ty)) W') : W.grownBy W' none := by
  have h1 : Keep (fun _ => False) W W' := ((Keep.refl (fun _ => False) W).alloc (.cells cs ty)).trans hK fun i hi e => by omega
  exact ⟨h1.os, h1.tape, h1.output, h1.size, fun k hk _ => h1.block k hk fun h => h⟩
end Go.Proofs.YtngkolcpbgibcaaGreatDoor
namespace Go.Proofs.YtngkolcpbgibcaaGreatDoor
open Go.RowKit Go.Shelf
attribute [local go_sem] Oper.semAt_some
def comes (ks : List Int) (b : Bool) (v : VX) : Bool := !(b && (v.kind != 4 && !ks.contains v.kind))
def pickA (ks : List Int) (a : Bool × List VX) : List VX := a.2.filter (comes ks a.1)
def pickL (ks : List Int) (args : List (Bool × List VX)) : List VX := args.flatMap (pickA ks)
def PV (x : VX) : Prop := OkX x ∧ shortX 100000000 x
abbrev VP := { x : VX // PV x }
def pkT (t : TypeId) : Bool := t == 32 || t == 55 || t == 34 || t == 60 || t == 3
def keepO : Obj → Bool
  | .cells _ t _ => pkT t
  | _ => false
structure KpX (n0 n2 : Nat) (W W' : World) : Prop where
  below : Below n0 W W'
  cells : ∀ (i : Nat) (o : Obj), n2 ≤ i → W.heap[i]? = some o → keepO o = true → W'.heap[i]? = some o
theorem KpX.refl (n0 n2 : Nat) (W : World) : KpX n0 n2 W W := ⟨Below.refl _ _, fun _ _ _ h _ => h⟩
theorem KpX.trans {n0 n2 : Nat} {A B C : World} (h : KpX n0 n2 A B) (k : KpX n0 n2 B C) : KpX n0 n2 A C := ⟨h.below.trans k.below, fun i o hi ho hc => k.cells i o hi (h.cells i o hi ho hc) hc⟩
theorem KpX.bk {n0 n2 g : Nat} {W W' : World} {t : TypeId} {cs : Array Value} (h : KpX n0 n2 W W') (hg : n2 ≤ g) (hb : Bk W g t cs) (ht : pkT t = true := by rfl) : Bk W' g t cs := h.cells g _ hg hb ht
theorem KpX.of_new {n0 n2 : Nat} {W W' : World} (h : W.grownBy W' none) (hn : n0 ≤ W.heap.size) : KpX n0 n2 W W' :=
  ⟨(Below.refl n0 W).grown h hn (fun k e => by cases e), fun i o _ ho _ => by rw [h.block i (Array.getElem?_eq_some_iff.1 ho).1 (by simp)]; exact ho⟩
structure PkAt (n0 n2 Ba Bw : Nat) (args : List (Bool × List VX)) (ks : List Int) (A : Option Addr) (c : Nat) (bw cw : Nat) (W : World) : Prop where
  ba : Bk W Ba 34 #[.slice A args.length c]
  bw_ : Bk W Bw 60 #[.slice (some ⟨bw, 0, none⟩) ks.length cw]
  ka : Bk W bw 3 (ks.map (Value.int .i64)).toArray
  la : n2 ≤ Ba
  lw : n2 ≤ Bw
  lk : n2 ≤ bw
  row : RowF argF W (· < n0) A args.length args
  le : n0 ≤ n2
theorem PkAt.kp {n0 n2 Ba Bw : Nat} {args : List (Bool × List VX)} {ks : List Int} {A : Option Addr} {c bw cw : Nat} {W W' : World} (h : PkAt n0 n2 Ba Bw args ks A c bw cw W) (k : KpX n0 n2 W W') : PkAt n0 n2 Ba Bw args ks A c bw cw W' :=
  ⟨k.bk h.la h.ba, k.bk h.lw h.bw_, k.bk h.lk h.ka, h.la, h.lw, h.lk, h.row.below k.below (Nat.le_refl _), h.le⟩
structure PkIn (n0 n2 Ba Bw : Nat) (args : List (Bool × List VX)) (ks : List Int) (A : Option Addr) (c : Nat) (bw cw g5 : Nat) (b : Bool) (vs : List VX) (A1 : Option Addr) (c1 : Nat) (W : World) : Prop where
  at_ : PkAt n0 n2 Ba Bw args ks A c bw cw W
  bk5 : Bk W g5 55 (ac b A1 vs.length c1).toArray
  l5 : n2 ≤ g5
  row : RowF valF W (· < n0) A1 vs.length vs
theorem PkIn.kp {n0 n2 Ba Bw : Nat} {args : List (Bool × List VX)} {ks : List Int} {A : Option Addr} {c bw cw g5 : Nat} {b : Bool} {vs : List VX} {A1 : Option Addr} {c1 : Nat} {W W' : World} (h : PkIn n0 n2 Ba Bw args ks A c bw cw g5 b vs A1 c1 W) (k : KpX n0 n2 W W') : PkIn n0 n2 Ba Bw args ks A c bw cw g5 b vs A1 c1 W' :=
  ⟨h.at_.kp k, k.bk h.l5 h.bk5, h.l5, h.row.below k.below (Nat.le_refl _)⟩
theorem PkAt.lt {n0 n2 Ba Bw : Nat} {args : List (Bool × List VX)} {ks : List Int} {A : Option Addr} {c bw cw : Nat} {W : World} (h : PkAt n0 n2 Ba Bw args ks A c bw cw W) : n2 ≤ W.heap.size ∧ n0 ≤ W.heap.size := by
  have := h.ba.lt; have := h.la; have := h.le; omega
theorem bk_q {W : World} {g : Nat} {t : TypeId} {cs : List Value} (hb : Bk W g t cs.toArray) : ∀ (j : Nat) (u : Value), cs[j]? = some u → W.cell? ((⟨g, 0, none⟩ : Addr).add j) = some u := fun j u hu => by
  have e : (⟨g, 0, none⟩ : Addr).add j = ⟨g, j, none⟩ := by unfold Addr.add; split <;> simp_all
  rw [e, hb.cell]; simpa using hu
theorem pick_pre {ks : List Int} {args : List (Bool × List VX)} {k j : Nat} {b : Bool} {vs : List VX} {x : VX} (hx : args[k]? = some (b, vs)) (hj : vs[j]? = some x) (hc : comes ks b x = true) :
    (pickL ks (args.take k) ++ (vs.take j).filter (comes ks b)) ++ [x] <+: pickL ks args := by
  have h1 : args = args.take k ++ (b, vs) :: args.drop (k + 1) := by
    obtain ⟨hk, e⟩ := List.getElem?_eq_some_iff.1 hx; rw [← e, List.getElem_cons_drop, List.take_append_drop]
  have h2 : vs = vs.take j ++ x :: vs.drop (j + 1) := by
    obtain ⟨hk, e⟩ := List.getElem?_eq_some_iff.1 hj; rw [← e, List.getElem_cons_drop, List.take_append_drop]
  have h3 : pickL ks args = pickL ks (args.take k) ++ (pickA ks (b, vs) ++ pickL ks (args.drop (k + 1))) := by
    conv => lhs; rw [h1]
    simp [pickL]
  have h4 : pickA ks (b, vs) = (vs.take j).filter (comes ks b) ++ (x :: (vs.drop (j + 1)).filter (comes ks b)) := by
    unfold pickA
    conv => lhs; rw [h2]
    rw [List.filter_append, List.filter_cons, if_pos hc]
  rw [h3, h4]; exact ⟨(vs.drop (j + 1)).filter (comes ks b) ++ pickL ks (args.drop (k + 1)), by simp⟩
set_option maxRecDepth 20000 in
set_option maxHeartbeats 4000000 in
theorem picked1_in (n : Nat) (hn : 1 ≤ n) (l : Nat) {n0 n2 Ba Bw bw cw c : Nat} {args : List (Bool × List VX)} {ks : List Int} {A : Option Addr} (hal : args.length ≤ 1000000) (hvl : ∀ a ∈ args, a.2.length ≤ 1000000) (hkl : ks.length ≤ 100)
    (hP : ∀ a ∈ args, ∀ x ∈ a.2, PV x) (J Jx : List VP → World → Prop) {W : World} (hJ : AbidesFrom W.heap.size J)
    (hY : ∀ pre (x : VP) W1, J pre W1 → pre.length < (pickL ks args).length → YieldAt Fence.wide (n - 1) Tryz.prog l #[.agg (vc x.1).toArray] W1 fun e W' => (e = .returned (.bool true) ∧ J (pre ++ [x]) W' ∧ KpX n0 n2 W1 W') ∨ (e = .returned (.bool false) ∧ Jx (pre ++ [x]) W'))
    (hat : PkAt n0 n2 Ba Bw args ks A c bw cw W) (h0 : J [] W) :
    CallsIn Fence.wide n Tryz.prog 170 #[.func (.yield l) #[] #[], .pointer (some ⟨Ba, 0, none⟩), .pointer (some ⟨Bw, 0, none⟩)] W fun e W' => (∃ v, e = .returned v) ∧
      ((∃ xs : List VP, xs.map (·.1) = pickL ks args ∧ J xs W') ∨ (∃ pre : List VP, pre.map (·.1) <+: pickL ks args ∧ Jx pre W')) := by
  have HA := Lib.hid hat; have ca : W.cell? ⟨Ba, 0, none⟩ = some (.slice A args.length c) := by rw [hat.ba.cell]; rfl
  have HJ := Lib.hid hJ; have HY := Lib.hid hY; have HP := Lib.hid hP; have HV := Lib.hid hvl; have HL0 : Hid (∃ pre : List VP, pre.map (·.1) = pickL ks (args.take 0) ∧ J pre W) := Lib.hid ⟨[], rfl, h0⟩; clear hat hJ hY hP hvl h0; refine callsIn_of_wp Tryz.func170 rfl trivial ?_ rfl; simp only [Tryz.ntmps170, List.size_toArray, List.length_cons, List.length_nil, Nat.reduceAdd, Nat.reduceSub, Array.replicate_succ, Array.replicate_zero, List.push_toArray, List.append_toArray, List.nil_append, List.cons_append]; have hF : ∀ f, Fence.wide.fn f := fun _ => trivial
  repeat' (first | ((with_reducible show Oper.wpIn _ _ _ _ _ _ _ _); refine stopI_ld 34 _ rfl ?_) | go_values | gi_guarded | gi_step | gi_upon)
  refine Lib.hid ?_; refine lfI hF sclArgs _ rfl rfl ca ?_; go_simp
  repeat' (first | go_values | gi_guarded | gi_step | gi_upon)
  gi_loopw [11] (fun i wr => ∃ k : Nat, k ≤ args.length ∧ i = .int .i64 k ∧ Hid (PkAt n0 n2 Ba Bw args ks A c bw cw wr) ∧ Hid (∃ pre : List VP, pre.map (·.1) = pickL ks (args.take k) ∧ J pre wr) ∧ Hid (W.heap.size ≤ wr.heap.size))
    (fun i _ => args.length - (intOf i).toNat)
  case atStart => exact ⟨0, Nat.zero_le _, rfl, HA, HL0, Lib.hid (Nat.le_refl _)⟩
  case round =>
    obtain ⟨k, hk, rfl, HA, HL, HS⟩ := hrel; clear ca HL0
    by_cases hlt : k < args.length
    · have hlt' : (k : Int) < (args.length : Int) := by omega
      have hk0 : (0 : Int) ≤ (k : Int) := by omega
      obtain ⟨⟨b, vs⟩, hx⟩ : ∃ x, args[k]? = some x := ⟨_, List.getElem?_eq_getElem hlt⟩
      obtain ⟨aa, rfl, hab, hac⟩ := HA.out.row.at_ (by omega); obtain ⟨cs, ⟨A1, c1, rfl, hc1, hr1⟩, hcell⟩ := hac k (b, vs) hx; have HC : Hid (∀ (j : Nat) (u : Value), (ac b A1 vs.length c1)[j]? = some u → wr.cell? ((aa.add (k * 2)).add j) = some u) := Lib.hid fun j u hu => by rw [add_add]; exact hcell j u hu
      have HX := Lib.hid hx; have HV1 := Lib.hid hr1; have hvl : vs.length ≤ 1000000 := HV.out _ (List.mem_of_getElem? hx); have HP1 : Hid (∀ x ∈ vs, PV x) := Lib.hid (HP.out _ (List.mem_of_getElem? hx)); clear hab hac hcell hr1 hx hc1
      repeat' (first | ((with_reducible show Oper.wpIn _ _ _ _ _ _ _ _); refine stopI_ld 55 _ rfl ?_) | go_values | gi_guarded | gi_step | gi_upon)
      refine Lib.hid ?_; refine ldI hF rtArg _ rfl rfl HC.out ?_; go_simp
      repeat' (first | ((with_reducible show Oper.wpIn _ _ _ _ _ _ _ _); refine stopI_st 55 _ _ rfl ?_) | go_values | gi_guarded | gi_step | gi_upon)
      have hnew : Bk (wr.alloc (.cells #[.bool false, .slice none 0 0] 55)) wr.heap.size 55 (ac false none 0 0).toArray := Bk.new _ _ _; refine Lib.hid ?_; refine stI (vs := ac b A1 vs.length c1) hF rtArg (ac_one _ _ _ _) hnew rfl _ _ rfl rfl rfl ?_; intro W2 hg5 hK2; have hG2 := grown_new hK2; have hsz := HA.out.lt; have HI : Hid (PkIn n0 n2 Ba Bw args ks (some aa) c bw cw wr.heap.size b vs A1 c1 W2) := Lib.hid ⟨HA.out.kp (KpX.of_new hG2 hsz.2), hg5, hsz.1, HV1.out.below (KpX.of_new (n2 := n2) hG2 hsz.2).below (Nat.le_refl _)⟩
      have HL2 : Hid (∃ pre : List VP, pre.map (·.1) = pickL ks (args.take k) ++ (vs.take 0).filter (comes ks b) ∧ J pre W2) := Lib.hid (by
        obtain ⟨pre, hp, hj⟩ := HL.out
        exact ⟨pre, by simpa using hp, HJ.out pre wr W2 none hj hG2 (by intro r e; cases e)⟩)
      have HS2 : Hid (W.heap.size ≤ W2.heap.size) := Lib.hid (Nat.le_trans HS.out hG2.size); have c5 : W2.cell? ⟨wr.heap.size, 1, none⟩ = some (.slice A1 vs.length c1) := by rw [hg5.cell]; rfl
      clear hnew hg5 hK2 hG2 hsz HC HV1 HA HL HS; generalize wr.heap.size = g5 at *; go_simp
      repeat' (first | ((with_reducible show Oper.wpIn _ _ _ _ _ _ _ _); refine stopI_ld 53 _ rfl ?_) | go_values | gi_guarded | gi_step | gi_upon)
      refine Lib.hid ?_; refine lfI hF sclVals _ rfl rfl c5 ?_; go_simp
      repeat' (first | go_values | gi_guarded | gi_step | gi_upon)
      gi_loopw [18] (fun i wr2 => ∃ j : Nat, j ≤ vs.length ∧ i = .int .i64 j ∧ Hid (PkIn n0 n2 Ba Bw args ks (some aa) c bw cw g5 b vs A1 c1 wr2) ∧ Hid (∃ pre : List VP, pre.map (·.1) = pickL ks (args.take k) ++ (vs.take j).filter (comes ks b) ∧ J pre wr2) ∧ Hid (W.heap.size ≤ wr2.heap.size))
        (fun i _ => vs.length - (intOf i).toNat)
      case atStart => exact ⟨0, Nat.zero_le _, rfl, HI, HL2, HS2⟩
      case round =>
        obtain ⟨j, hj, rfl, HI, HL, HS⟩ := hrel; clear c5 HL2 HS2
        by_cases hjl : j < vs.length
        · have hjl' : (j : Int) < (vs.length : Int) := by omega
          have hj0 : (0 : Int) ≤ (j : Int) := by omega
          obtain ⟨x, hxj⟩ : ∃ x, vs[j]? = some x := ⟨_, List.getElem?_eq_getElem hjl⟩
          obtain ⟨a1, rfl, -, hcx⟩ := vals_at HI.out.row hxj; have HC := Lib.hid hcx; have hPx : PV x := HP1.out x (List.mem_of_getElem? hxj)
          have hstep : (vs.take (j + 1)).filter (comes ks b) = (vs.take j).filter (comes ks b) ++ (if comes ks b x = true then [x] else []) := by
            rw [List.take_add_one, hxj, List.filter_append]; simp [List.filter_cons]
          have HT := Lib.hid hstep; have HXJ := Lib.hid hxj; clear hcx hstep hxj
          repeat' (first | ((with_reducible show Oper.wpIn _ _ _ _ _ _ _ _); refine stopI_ld 32 _ rfl ?_) | go_values | gi_guarded | gi_step | gi_upon)
          refine Lib.hid ?_; refine ldI hF rtV _ rfl rfl HC.out ?_; go_simp
          repeat' (first | ((with_reducible show Oper.wpIn _ _ _ _ _ _ _ _); refine stopI_st 32 _ _ rfl ?_) | go_values | gi_guarded | gi_step | gi_upon)
          have hnew := Bk.new wr 32 (vc .blank).toArray; refine Lib.hid ?_; refine stI (vs := vc x) hF rtV (vc_one x) hnew ((vc_len _).trans (vc_len _).symm) _ _ rfl rfl rfl ?_; intro W3 hg7 hK3; have hG3 := grown_new hK3; have hsz := HI.out.at_.lt; have HI3 := Lib.hid (HI.out.kp (KpX.of_new (n2 := n2) hG3 hsz.2))
          have HL3 : Hid (∃ pre : List VP, pre.map (·.1) = pickL ks (args.take k) ++ (vs.take j).filter (comes ks b) ∧ J pre W3) := Lib.hid (by
            obtain ⟨pre, hp, hj⟩ := HL.out
            exact ⟨pre, hp, HJ.out pre wr W3 none hj hG3 (by intro r e; cases e)⟩)
          have HS3 : Hid (W.heap.size ≤ W3.heap.size) := Lib.hid (Nat.le_trans HS.out hG3.size); have H7 := Lib.hid hg7; clear hnew hg7 hK3 hG3 hsz HI HL HS HC; generalize wr.heap.size = g7 at *; go_simp
          repeat' (first | ((with_reducible show Oper.wpIn _ _ _ _ _ _ _ _); refine stopI_ld 4 _ rfl ?_) | go_values | gi_guarded | gi_step | gi_upon)
          have c50 : W3.cell? ⟨g5, 0, none⟩ = some (.bool b) := by rw [HI3.out.bk5.cell]; rfl
          have c70 : W3.cell? ⟨g7, 0, none⟩ = some (.int .i64 x.kind) := by rw [H7.out.cell]; have := vc_kind x; simpa using this
          cases b with
          | false =>
            have hcm : comes ks false x = true := rfl; refine Lib.hid ?_; refine lfI hF sclBool _ rfl rfl c50 ?_; go_simp
            repeat' (first | ((with_reducible show Oper.wpIn _ _ _ _ _ _ _ _); refine stopI_ld 32 _ rfl ?_) | go_values | gi_guarded | gi_step | gi_upon)
            clear c50; obtain ⟨pre, hp, hj⟩ := HL3.out; have hpre := pick_pre HX.out HXJ.out hcm; rw [← hp] at hpre; have hlen : pre.length < (pickL ks args).length := by have := hpre.length_le; simp at this; omega
            obtain ⟨fn, tmps, assign, body, hy, hR⟩ := HY.out pre ⟨x, hPx⟩ W3 hj hlen; have hst := HT.out; rw [if_pos hcm] at hst; have HQ := Lib.hid (And.intro hp (And.intro hpre hst)); clear hp hpre hst hj hlen; dsimp only at hy; refine Lib.hid ?_; refine ldI hF rtV _ rfl rfl (bk_q H7.out) ?_; go_simp
            repeat' (first | go_values | gi_guarded | gi_step | gi_upon)
            refine hR.mono ?_; rintro e W4 (⟨rfl, hJ4, hk4⟩ | ⟨rfl, hJx4⟩)
            · dsimp only
              repeat' (first | go_values | gi_guarded | gi_step | gi_upon)
              go_roundw
              case rel => exact ⟨j + 1, by omega, by go_num, Lib.hid (HI3.out.kp hk4), Lib.hid ⟨pre ++ [⟨x, hPx⟩], by rw [HQ.out.2.2, List.map_append, HQ.out.1, List.append_assoc]; rfl, hJ4⟩, Lib.hid (Nat.le_trans HS3.out hk4.below.size)⟩
              case measure => simp [intOf]; omega
            · dsimp only
              repeat' (first | go_values | gi_guarded | gi_step | gi_upon)
              refine bodyPost_ret (results_none rfl _ _ _) rfl ?_; exact ⟨⟨_, rfl⟩, .inr ⟨pre ++ [⟨x, hPx⟩], by rw [List.map_append]; exact HQ.out.2.1, hJx4⟩⟩
          | true =>
            by_cases hk4 : x.kind = 4
            · have hk4' : (x.kind != 4) = false := by rw [hk4]; rfl
              have hcm : comes ks true x = true := by simp [comes, hk4]
              clear hk4; refine Lib.hid ?_; refine lfI hF sclBool _ rfl rfl c50 ?_; go_simp
              repeat' (first | ((with_reducible show Oper.wpIn _ _ _ _ _ _ _ _); refine stopI_ld 3 _ rfl ?_) | go_values | gi_guarded | gi_step | gi_upon)
              refine Lib.hid ?_; refine lfI hF sclInt _ rfl rfl c70 ?_; go_simp
              repeat' (first | ((with_reducible show Oper.wpIn _ _ _ _ _ _ _ _); refine stopI_ld 32 _ rfl ?_) | go_values | gi_guarded | gi_step | gi_upon)
              obtain ⟨pre, hp, hj⟩ := HL3.out; have hpre := pick_pre HX.out HXJ.out hcm; rw [← hp] at hpre; have hlen : pre.length < (pickL ks args).length := by have := hpre.length_le; simp at this; omega
              obtain ⟨fn, tmps, assign, body, hy, hR⟩ := HY.out pre ⟨x, hPx⟩ W3 hj hlen; have hst := HT.out; rw [if_pos hcm] at hst; have HQ := Lib.hid (And.intro hp (And.intro hpre hst)); clear hp hpre hst hj hlen; dsimp only at hy; refine Lib.hid ?_; refine ldI hF rtV _ rfl rfl (bk_q H7.out) ?_; go_simp
              repeat' (first | go_values | gi_guarded | gi_step | gi_upon)
              refine hR.mono ?_; rintro e W4 (⟨rfl, hJ4, hk4⟩ | ⟨rfl, hJx4⟩)
              · dsimp only
                repeat' (first | go_values | gi_guarded | gi_step | gi_upon)
                go_roundw
                case rel => exact ⟨j + 1, by omega, by go_num, Lib.hid (HI3.out.kp hk4), Lib.hid ⟨pre ++ [⟨x, hPx⟩], by rw [HQ.out.2.2, List.map_append, HQ.out.1, List.append_assoc]; rfl, hJ4⟩, Lib.hid (Nat.le_trans HS3.out hk4.below.size)⟩
                case measure => simp [intOf]; omega
              · dsimp only
                repeat' (first | go_values | gi_guarded | gi_step | gi_upon)
                refine bodyPost_ret (results_none rfl _ _ _) rfl ?_; exact ⟨⟨_, rfl⟩, .inr ⟨pre ++ [⟨x, hPx⟩], by rw [List.map_append]; exact HQ.out.2.1, hJx4⟩⟩
            · have hk4' : (x.kind != 4) = true := by simpa using hk4
              have ckw : W3.cell? ⟨Bw, 0, none⟩ = some (.slice (some ⟨bw, 0, none⟩) ks.length cw) := by rw [HI3.out.at_.bw_.cell]; rfl
              have HCt : Hid (Calls Tryz.prog 171 #[.slice (some ⟨bw, 0, none⟩) ks.length cw, .int .i64 x.kind] W3 fun e w' => e = .returned (.bool (ks.contains x.kind)) ∧ w' = W3) := Lib.hid (by
                have := Tryz.slices_Contains_int bw 0 ks.length cw ks x.kind W3 (Nat.le_refl _) (by omega) (fun i hi => by rw [HI3.out.at_.ka.cell]; simp [List.getD_eq_getElem?_getD, hi])
                rwa [List.take_length] at this)
              clear hk4; refine Lib.hid ?_; refine lfI hF sclBool _ rfl rfl c50 ?_; go_simp
              repeat' (first | ((with_reducible show Oper.wpIn _ _ _ _ _ _ _ _); refine stopI_ld 3 _ rfl ?_) | go_values | gi_guarded | gi_step | gi_upon)
              refine Lib.hid ?_; refine lfI hF sclInt _ rfl rfl c70 ?_; go_simp
              repeat' (first | ((with_reducible show Oper.wpIn _ _ _ _ _ _ _ _); refine stopI_ld 60 _ rfl ?_) | go_values | gi_guarded | gi_step | gi_upon)
              refine Lib.hid ?_; refine lfI hF sclInts _ rfl rfl ckw ?_; go_simp
              repeat' (first | ((with_reducible show Oper.wpIn _ _ _ _ _ _ _ _); refine stopI_ld 3 _ rfl ?_) | go_values | gi_guarded | gi_step | gi_upon)
              refine Lib.hid ?_; refine lfI hF sclInt _ rfl rfl c70 ?_; go_simp
              repeat' (first | go_values | gi_guarded | gi_step | gi_upon)
              clear c50 c70 ckw; refine (callsIn_wide.2 HCt.out).mono ?_; rintro e w' ⟨rfl, hw⟩; have hw := hw.symm; subst hw; dsimp only
              cases hcon : ks.contains x.kind with
              | true =>
                have hcm : comes ks true x = true := by unfold comes; rw [hcon]; simp
                rw [hcon] at *
                repeat' (first | ((with_reducible show Oper.wpIn _ _ _ _ _ _ _ _); refine stopI_ld 32 _ rfl ?_) | go_values | gi_guarded | gi_step | gi_upon)
                obtain ⟨pre, hp, hj⟩ := HL3.out; have hpre := pick_pre HX.out HXJ.out hcm; rw [← hp] at hpre; have hlen : pre.length < (pickL ks args).length := by have := hpre.length_le; simp at this; omega
                obtain ⟨fn, tmps, assign, body, hy, hR⟩ := HY.out pre ⟨x, hPx⟩ W3 hj hlen; have hst := HT.out; rw [if_pos hcm] at hst; have HQ := Lib.hid (And.intro hp (And.intro hpre hst)); clear hp hpre hst hj hlen; dsimp only at hy; refine Lib.hid ?_; refine ldI hF rtV _ rfl rfl (bk_q H7.out) ?_; go_simp
                repeat' (first | go_values | gi_guarded | gi_step | gi_upon)
                refine hR.mono ?_; rintro e W4 (⟨rfl, hJ4, hk4⟩ | ⟨rfl, hJx4⟩)
                · dsimp only
                  repeat' (first | go_values | gi_guarded | gi_step | gi_upon)
                  go_roundw
                  case rel => exact ⟨j + 1, by omega, by go_num, Lib.hid (HI3.out.kp hk4), Lib.hid ⟨pre ++ [⟨x, hPx⟩], by rw [HQ.out.2.2, List.map_append, HQ.out.1, List.append_assoc]; rfl, hJ4⟩, Lib.hid (Nat.le_trans HS3.out hk4.below.size)⟩
                  case measure => simp [intOf]; omega
                · dsimp only
                  repeat' (first | go_values | gi_guarded | gi_step | gi_upon)
                  refine bodyPost_ret (results_none rfl _ _ _) rfl ?_; exact ⟨⟨_, rfl⟩, .inr ⟨pre ++ [⟨x, hPx⟩], by rw [List.map_append]; exact HQ.out.2.1, hJx4⟩⟩
              | false =>
                have hcm : comes ks true x = false := by unfold comes; rw [hcon, hk4']; rfl
                have hst := HT.out; rw [if_neg (by rw [hcm]; decide), List.append_nil] at hst; have HT2 := Lib.hid hst; clear hst
                repeat' (first | go_values | gi_guarded | gi_step | gi_upon)
                go_roundw
                case rel =>
                  obtain ⟨pre, hp, hj⟩ := HL3.out; exact ⟨j + 1, by omega, by go_num, HI3, Lib.hid ⟨pre, by rw [hp, HT2.out], hj⟩, HS3⟩
                case measure => simp [intOf]; omega
        · obtain rfl : j = vs.length := by omega
          repeat' (first | go_values | gi_guarded | gi_step | gi_upon)
          go_roundw
          case rel =>
            obtain ⟨pre, hp, hj⟩ := HL.out; refine ⟨k + 1, by omega, by go_num, Lib.hid HI.out.at_, Lib.hid ⟨pre, ?_, hj⟩, HS⟩; rw [hp, List.take_length, List.take_add_one, HX.out]; simp [pickL, pickA]
          case measure => simp [intOf]; omega
    · obtain rfl : k = args.length := by omega
      repeat' (first | go_values | gi_guarded | gi_step | gi_upon)
      go_end0
      obtain ⟨pre, hp, hj⟩ := HL.out; rw [List.take_length] at hp; exact ⟨⟨_, rfl⟩, .inl ⟨pre, hp, hj⟩⟩
end Go.Proofs.YtngkolcpbgibcaaGreatDoor
