/- fun.Apply by its contract, function by function. Condition: the tables are laid; values may be. -/
/- cashbooklaw9.known by its contract: it returns true. Condition: strconv.FormatUint keeps its contract (none of it is asked). -/
/- Rows of Args, built and appended to. No condition. -/
/- cashbooklaw11.two by its contract. Condition: few numbers. -/
/- What known asks of Apply, call by call. Condition: the tables are laid. -/
/- What a text reads as is a decimal that may be. No program; no condition. -/
/- fun.end by its contract, of two values. Condition: values may be, words are valid. -/
/- What FunTypes asks: many Args, one by one. No condition. -/
/- Pieces of words by fun.Apply: LEFT, RIGHT, MID, CONCAT; Args just made. Condition: the tables are laid. -/
import Derived.Test.YtngkolcpbgibcaaGreatDoorA1
import Derived.Test.YtngkolcpbgibcaaGreatDoorA2
import Derived.Test.YtngkolcpbgibcaaGreatDoorO1
import Derived.Test.YtngkolcpbgibcaaGreatDoorO2
import Derived.Test.YtngkolcpbgibcaaGreatDoorN2
import Derived.Test.YtngkolcpbgibcaaGreatDoorN4
import Derived.Test.YtngkolcpbgibcaaGreatDoorF5
import Derived.Test.YtngkolcpbgibcaaGreatDoorF9m
import Derived.Test.YtngkolcpbgibcaaGreatDoorT2
import Derived.Test.YtngkolcpbgibcaaGreatDoorN3
import Derived.Test.YtngkolcpbgibcaaGreatDoorN5
import Derived.Test.YtngkolcpbgibcaaGreatDoorN6
import Derived.Test.YtngkolcpbgibcaaGreatDoorBX
import Derived.Test.YtngkolcpbgibcaaGreatDoorPhI
import Derived.Test.YtngkolcpbgibcaaGreatDoorF4
set_option linter.unusedVariables false
set_option linter.unusedSimpArgs false
namespace Go.Proofs.YtngkolcpbgibcaaGreatDoor
open Go.RowKit
structure AG (args : List (Bool × List VX)) : Prop where
  few : args.length ≤ 1000000
  vals : ∀ a ∈ args, a.2.length ≤ 1000000
  pv : ∀ a ∈ args, ∀ x ∈ a.2, PV x
  gd : ∀ a ∈ args, ∀ x ∈ a.2, GdX x
theorem row_up {w W : World} {A : Option Addr} {n : Nat} {args : List (Bool × List VX)} (h : RowF argF w (· < w.heap.size) A n args) (hW : Below w.heap.size w W) : RowF argF W (· < W.heap.size) A n args := (h.below hW (Nat.le_refl _)).mono hW.size
theorem pick_mem {ks : List Int} {args : List (Bool × List VX)} {x : VX} (h : x ∈ pickL ks args) : ∃ a ∈ args, x ∈ a.2 := by
  unfold pickL at h; obtain ⟨a, ha, hx⟩ := List.mem_flatMap.1 h; exact ⟨a, ha, (List.mem_filter.1 hx).1⟩
theorem AG.pick {args : List (Bool × List VX)} (h : AG args) (ks : List Int) : ∀ x ∈ pickL ks args, GdX x := fun x hx => by
  obtain ⟨a, ha, hm⟩ := pick_mem hx; exact h.gd a ha x hm
def Ap (w : World) (op : Int) (A : Option Addr) (n c : Nat) (r : VX) : Prop := Calls Tryz.prog 14 #[.int .i64 op, .slice A n c] w fun e W => e = .returned (.agg (vc r).toArray) ∧ Below w.heap.size w W
section
variable {w : World} {A : Option Addr} {c : Nat} {args : List (Bool × List VX)}
theorem tk (HF : FnT w) {op : Int} (h : RowF argF w (· < w.heap.size) A args.length args) (ag : AG args) {b : Bool} (ht : takesB op args = b) : ∀ W, Below w.heap.size w W → Calls Tryz.prog 40 #[.int .i64 op, .slice A args.length c] W fun e W' => e = .returned (.bool b) ∧ Below W.heap.size W W' := fun W hW => by
  have := takes_any (HF.below hW) (k := op) (c := c) (row_up h hW) ag.few
  rwa [ht] at this
theorem ap_no (HF : FnT w) {op : Int} (h : RowF argF w (· < w.heap.size) A args.length args) (ag : AG args) (ht : takesB op args = false) : Ap w op A args.length c (.err 15) := apply_no (tk HF h ag ht)
theorem ap_0 (HF : FnT w) (h : RowF argF w (· < w.heap.size) A args.length args) (ag : AG args) (ht : takesB 0 args = true) : Ap w 0 A args.length c (sumN 0 (nsX (pickL [1] args))) :=
  apply_0 (tk HF h ag ht) fun W hW => sum_any (row_up h hW) ag.few ag.vals ag.pv (ag.pick _)
theorem ap_4 (HF : FnT w) (h : RowF argF w (· < w.heap.size) A args.length args) (ag : AG args) (ht : takesB 4 args = true) : Ap w 4 A args.length c (sumN 4 (nsX (pickL [1] args))) :=
  apply_4 (tk HF h ag ht) fun W hW => sum_any (row_up h hW) ag.few ag.vals ag.pv (ag.pick _)
theorem ap_1 (HF : FnT w) (h : RowF argF w (· < w.heap.size) A args.length args) (ag : AG args) (ht : takesB 1 args = true) : Ap w 1 A args.length c (exN (-1) (nsX (pickL [1] args))) :=
  apply_1 (tk HF h ag ht) fun W hW => extreme_any (row_up h hW) ag.few ag.vals ag.pv (ag.pick _)
theorem ap_2 (HF : FnT w) (h : RowF argF w (· < w.heap.size) A args.length args) (ag : AG args) (ht : takesB 2 args = true) : Ap w 2 A args.length c (exN 1 (nsX (pickL [1] args))) :=
  apply_2 (tk HF h ag ht) fun W hW => extreme_any (row_up h hW) ag.few ag.vals ag.pv (ag.pick _)
theorem ap_3 (HF : FnT w) (h : RowF argF w (· < w.heap.size) A args.length args) (ag : AG args) (ht : takesB 3 args = true) : Ap w 3 A args.length c (cntX (pickL [1] args)) :=
  apply_3 (tk HF h ag ht) fun W hW => count_any (row_up h hW) ag.few ag.vals ag.pv
theorem ap_10 (HF : FnT w) {x : VX} {r : List (Bool × List VX)} (h : RowF argF w (· < w.heap.size) A ((false, [x]) :: r).length ((false, [x]) :: r)) (ag : AG ((false, [x]) :: r)) (hr : r.length = 1 ∨ r.length = 2) (ht : takesB 10 ((false, [x]) :: r) = true) : Ap w 10 A ((false, [x]) :: r).length c (eitherX x r) :=
  apply_10 (tk HF h ag ht) fun W hW => either_any (row_up h hW) hr
theorem ap_24 (HF : FnT w) {l : List VX} {y : VX} (hs : shortX 100000000 y) (h : RowF argF w (· < w.heap.size) A 2 [(true, l), (false, [y])]) (ag : AG [(true, l), (false, [y])]) (ht : takesB 24 [(true, l), (false, [y])] = true) : Ap w 24 A 2 c (indexX l y) := by
  obtain ⟨aa, rfl, hall⟩ := args_all h (by simp); obtain ⟨A1, c1, hA⟩ := hall 0 _ rfl; obtain ⟨A2, c2, hB⟩ := hall 1 _ rfl; obtain ⟨a2, rfl, hc, hv⟩ := hB.one; exact apply_24 (tk (args := [(true, l), (false, [y])]) HF h ag ht) (fun W hW => (hA.below hW).cell 1 _ rfl) (fun W hW => hc W hW 1 _ rfl) hv fun W hW => index_any hs (ag.vals (true, l) (List.mem_cons_self ..)) (hA.below hW).row
theorem takes_one {op : Int} (ht : takesB op args = true) (h1 : ¬ (op = 10 ∨ op = 23 ∨ op = 25)) (h2 : ¬ op = 24) (h3 : manyB op = false) : ∀ a ∈ args, a.1 = false ∧ a.2.length = 1 := by
  intro a ha; unfold takesB at ht
  split at ht
  · split at ht
    · rw [Bool.and_eq_true] at ht; have := ht.2; unfold shB at this; rw [if_neg h1, if_neg h2, List.all_eq_true] at this; have := this a ha; unfold okA at this; rw [h3, Bool.and_false, Bool.or_false] at this
      simpa [oneB] using this
    · cases ht
  · cases ht
theorem ap_v (HF : FnT w) {op : Int} (hop : ¬ (op = 0 ∨ op = 4 ∨ op = 1 ∨ op = 2 ∨ op = 3 ∨ op = 11 ∨ op = 12 ∨ op = 18 ∨ op = 10 ∨ op = 23 ∨ op = 25 ∨ op = 24)) (h : RowF argF w (· < w.heap.size) A args.length args) (ag : AG args) (ht : takesB op args = true) {r : VX}
    (HC : ∀ W A' c', Below w.heap.size w W → args.length ≤ c' → RowF valF W (· < W.heap.size) A' args.length (args.map oneV) → Calls Tryz.prog 50 #[.int .i64 op, .slice A' args.length c'] W fun e W' => e = .returned (.agg (vc r).toArray) ∧ Below W.heap.size W W') : Ap w op A args.length c r :=
  apply_v hop (tk HF h ag ht) (fun W hW => values_any (row_up h hW) ag.few fun a ha => (takes_one ht (by omega) (by omega) (decide_eq_false (by omega)) a ha).2) HC
end
end Go.Proofs.YtngkolcpbgibcaaGreatDoor
namespace Go.Proofs.YtngkolcpbgibcaaGreatDoor
open Go.RowKit
theorem lN_any {w : World} (n : Int) :
    Calls Tryz.prog 26 #[.int .i64 n] w fun x w' => x = .returned (.agg #[.int .i64 1, .int .i64 n, .int .i64 0, .string ⟨#[]⟩, .bool false, .int .i64 0]) ∧ Below w.heap.size w w' := by
  have HI := Lib.hid (fun W : World => int_any (w := W) (n := n)); have HB := Lib.hid (sb1 w 32 #[.int .i64 0, .int .i64 0, .int .i64 0, .string ⟨#[]⟩, .bool false, .int .i64 0]); go_enter Tryz.func26, Tryz.ntmps26
  go_wp2_with fail
  refine (HI.out _).mono ?_; rintro x w1 ⟨rfl, hb⟩; have hB := HB.out.call hb; have hF := hB.put6 (i := 0) rfl (by omega) (by simp [butBox]) (.int .i64 1 : Value) (.int .i64 n : Value) (.int .i64 0 : Value) (.string ⟨#[]⟩ : Value) (.bool false : Value) (.int .i64 0 : Value); have hbel := hF.bel; have kr := hB.box (i := 0) rfl; have cr0 := kr.cell 0; have zr0 := kr.frozen 0; have cr1 := kr.cell 1; have zr1 := kr.frozen 1; have cr2 := kr.cell 2; have zr2 := kr.frozen 2; have cr3 := kr.cell 3; have zr3 := kr.frozen 3; have cr4 := kr.cell 4; have zr4 := kr.frozen 4; have cr5 := kr.cell 5; have zr5 := kr.frozen 5; clear kr; clear hb HB HI hB hF; go_wp2; refine bodyPost_ret (v := .agg #[.int .i64 1, .int .i64 n, .int .i64 0, .string ⟨#[]⟩, .bool false, .int .i64 0]) ?_ rfl ⟨rfl, hbel⟩; simp [results, Tryz.results26, go_sem, cr0, cr1, cr2, cr3, cr4, cr5]
end Go.Proofs.YtngkolcpbgibcaaGreatDoor
namespace Go.Proofs.YtngkolcpbgibcaaGreatDoor
open Go.RowKit
def ArgV (W : World) (u : Value) (x : Bool × List VX) : Prop := ∃ A c, u = .agg (ac x.1 A x.2.length c).toArray ∧ x.2.length ≤ c ∧ RowF valF W (· < W.heap.size) A x.2.length x.2
theorem ArgV.below {W W' : World} {u : Value} {x : Bool × List VX} (h : ArgV W u x) (hb : Below W.heap.size W W') : ArgV W' u x := by
  obtain ⟨A, c, e, hc, hr⟩ := h; exact ⟨A, c, e, hc, (hr.below hb (Nat.le_refl _)).mono hb.size⟩
def agCs : Value → List Value
  | .agg cs => cs.toList
  | _ => []
theorem argv_len {W : World} {u : Value} {x : Bool × List VX} (h : ArgV W u x) : (agCs u).length = 2 := by
  obtain ⟨A, c, rfl, -⟩ := h; rfl
theorem argv_one {W : World} {g : Nat} {x : VX} (h : Bk W g 32 (vc x).toArray) : ArgV W (.agg (ac false (some ⟨g, 0, none⟩) 1 1).toArray) (false, [x]) := by
  refine ⟨_, 1, rfl, Nat.le_refl _, rfl, fun _ => ⟨_, rfl, h.lt, fun i y hi => ?_⟩⟩
  cases i with
  | zero =>
    simp only [List.getElem?_cons_zero, Option.some.injEq] at hi; subst hi; exact ⟨_, rfl, fun j u hu => by rw [Nat.zero_mul, Nat.zero_add, addr_zero, h.cell]; simpa using hu⟩
  | succ i => simp at hi
theorem row_args {W : World} {q : Nat} {L : List (Value × (Bool × List VX))} (h : ∀ p ∈ L, ArgV W p.1 p.2) (hb : Bk W q 55 (L.flatMap fun p => agCs p.1).toArray) : RowF argF W (· < W.heap.size) (some ⟨q, 0, none⟩) L.length (L.map (·.2)) := by
  refine ⟨by simp, fun _ => ⟨_, rfl, hb.lt, fun i x hi => ?_⟩⟩; rw [List.getElem?_map, Option.map_eq_some_iff] at hi; obtain ⟨p, hp, rfl⟩ := hi; obtain ⟨A, c, e, hc, hr⟩ := h p (List.mem_of_getElem? hp); refine ⟨ac p.2.1 A p.2.2.length c, ⟨A, c, rfl, hc, hr⟩, fun j u hu => ?_⟩
  have hf := flat_get (S := L.map fun p => (agCs p.1, p.2)) (k := 2) (fun q hq => by
    obtain ⟨p', hp', rfl⟩ := List.mem_map.1 hq
    exact argv_len (h p' hp')) (i := i) (p := (agCs p.1, p.2)) (by rw [List.getElem?_map, hp]; rfl) (j := j) (u := u) (by rw [e]; exact hu)
  rw [addr_zero, hb.cell]; rw [List.flatMap_map] at hf
  simpa [argF] using hf
def FA (W : World) (v : Value) (i : Nat) : Prop := i < W.heap.size ∧ v.ownBlock ≠ some i
abbrev OwnA (W : World) (base : Nat) (v : Value) (L : List (Bool × List VX)) : Prop := OwnF argF W (FA W v) base 55 v L
theorem argRow : ElemRow Tryz.prog 34 55 (.agg (ac false none 0 0).toArray) 2 32 := by
  obtain ⟨i, hi, h0, h1, h2⟩ := info_parts (P := Tryz.prog) (e := 55) (z := .agg (ac false none 0 0).toArray) (size := 2) (bytes := 32) (by kernel_rfl); exact ⟨Tryz.underlying34, ⟨i, hi, h0, h1, h2⟩, rfl, by omega⟩
theorem OwnA.below {W W' : World} {base : Nat} {v : Value} {L : List (Bool × List VX)} (h : OwnA W base v L) (hb : Below W.heap.size W W') : OwnA W' base v L :=
  h.keep (T := fun _ => False) (Keep.of_below hb fun i hi hB => by omega) (fun _ _ h => h) fun i hi => ⟨⟨Nat.lt_of_lt_of_le hi.1 hb.size, hi.2⟩, hb.block i hi.1⟩
theorem OwnA.read {W : World} {base : Nat} {v : Value} {L : List (Bool × List VX)} (h : OwnA W base v L) : ∃ A c, v = .slice A L.length c ∧ L.length ≤ c ∧ RowF argF W (· < W.heap.size) A L.length L :=
  OwnF.read h (F' := (· < W.heap.size)) (fun i hi => (h.lt i hi).2) fun i hi => hi.1
theorem OwnA.nil (W : World) (base : Nat) : OwnA W base (.slice none 0 0) [] := OwnF.nil _ _ _ _ _
theorem app_a {o : Oper} {a : Act} {W : World} {K : Act → World → Prop} {Q : Exit → Act → World → Prop} {base g q n c : Nat} {A : Option Addr} {L : List (Bool × List VX)} {x : VX} (h : OwnA W base (.slice A n c) L) (hg : Bk W g 32 (vc x).toArray) (hgo : (Value.slice A n c).ownBlock ≠ some g) (hq : Bk W q 55 (ac false (some ⟨g, 0, none⟩) 1 1).toArray) (hbase : base ≤ W.heap.size) (hlen : L.length ≤ 1000000000)
    (s y : Operand) (ho : o.op = .call { callee := .builtin .append, args := #[s, y], argTypes := #[34, 34] }) (hs : a.eval s = .slice A n c) (hy : a.eval y = .slice (some ⟨q, 0, none⟩) 1 1)
    (hk : ∀ A' n' c' W', OwnA W' base (.slice A' n' c') (L ++ [(false, [x])]) → Keep (fun i => (Value.slice A n c).ownBlock = some i) W W' → K (a.put o.dst (.slice A' n' c')) W') : o.wp Tryz.prog a W K Q := by
  obtain ⟨S, h1, h2, hown⟩ := h.ex; have hrd : Rd W W.heap.size 2 (some ⟨q, 0, none⟩) 1 (ac false (some ⟨g, 0, none⟩) 1 1) := ⟨rfl, fun _ => ⟨_, rfl, hq.lt, fun j u hu => by rw [addr_zero, hq.cell]; simpa using hu⟩⟩
  refine wp_app argRow s y ho hs hy hown hrd (ac_one _ _ _ _) (by unfold maxLen; omega) (by omega) hbase ?_; intro v' W' ho' hgr hb'; have hK := Keep.of_grew (S := fun i => (Value.slice A n c).ownBlock = some i) hgr fun i hi => hi.symm
  have hne : ∀ i, i < W.heap.size → (Value.slice A n c).ownBlock ≠ some i → v'.ownBlock ≠ some i := by
    intro i hi hn e
    rcases hgr.lies with hl | ⟨k, hl, hk⟩
    · exact hn (hl.symm.trans e)
    · rw [e] at hl; injection hl with hl; omega
  have hm : Move W (FA W (.slice A n c)) W' (FA W' v') := fun i hi => ⟨⟨Nat.lt_of_lt_of_le hi.1 hK.size, hne i hi.1 hi.2⟩, hK.block i hi.1 hi.2⟩
  have hgb := hK.bk hg hgo
  have hx : argF.R W' (FA W' v') (ac false (some ⟨g, 0, none⟩) 1 1) (false, [x]) := by
    refine ⟨_, 1, rfl, Nat.le_refl _, rfl, fun _ => ⟨_, rfl, ⟨hgb.lt, hne g hg.lt hgo⟩, fun i y hi => ?_⟩⟩
    cases i with
    | zero =>
      simp only [List.getElem?_cons_zero, Option.some.injEq] at hi; subst hi; exact ⟨_, rfl, fun j u hu => by rw [Nat.zero_mul, Nat.zero_add, addr_zero, hgb.cell]; simpa using hu⟩
    | succ i => simp at hi
  have hO : OwnA W' base v' (L ++ [(false, [x])]) := OwnF.snoc h1 h2 hm hx ho'; obtain ⟨A', c', rfl, _⟩ := hO.form; exact hk A' _ c' W' hO hK
theorem lN_x {w : World} (n : Int) : Calls Tryz.prog 26 #[.int .i64 n] w fun x w' => x = .returned (.agg (vc (.num n 0)).toArray) ∧ Below w.heap.size w w' := lN_any n
theorem lS_x {w : World} (l : List UInt8) : Calls Tryz.prog 29 #[.string ⟨l.toArray⟩] w fun x w' => x = .returned (.agg (vc (.str l)).toArray) ∧ Below w.heap.size w w' := lS_any _
end Go.Proofs.YtngkolcpbgibcaaGreatDoor
namespace Go.Proofs.YtngkolcpbgibcaaGreatDoor
open Go.RowKit
section
variable {o : Oper} {a : Act} {w W : World} {K : Act → World → Prop} {Q : Exit → Act → World → Prop} {bs : Bxs} {b : Bool} {A : Option Addr} {n c : Nat}
theorem bs_a (H : Hid (BX w bs W)) (x : Operand) (ho : o.op = .buildSlice 34 1 #[(0, x)]) (hx : a.eval x = .agg (ac b A n c).toArray) (h : ∀ g W', Hid (BX w ((g, 55, ac b A n c) :: bs) W') → K (a.put o.dst (.slice (some ⟨g, 0, none⟩) 1 1)) W') : o.wp Tryz.prog a W K Q := by
  have hm := H.out.made 55 (ac b A n c); unfold Oper.wp execOp; rw [ho]; simp only [List.map_toArray, List.map_cons, List.map_nil, hx]; clear ho hx; simp only [ac] at hm h ⊢; go_simp; exact h _ _ (Lib.hid hm)
end
theorem BX.add {w W : World} {bs : Bxs} {g : Nat} {t : TypeId} {cs : List Value} (h : BX w bs W) (hb : Bk W g t cs.toArray) (hlo : w.heap.size ≤ g) (hn : ∀ b ∈ bs, b.1 ≠ g) : BX w ((g, t, cs) :: bs) W := by
  refine ⟨h.bel, fun b hm => ?_, fun b hm => ?_, ?_⟩
  · rcases List.mem_cons.1 hm with rfl | hm
    · exact hlo
    · exact h.lo b hm
  · rcases List.mem_cons.1 hm with rfl | hm
    · exact hb
    · exact h.bk b hm
  · rw [List.map_cons, List.nodup_cons]; refine ⟨fun hm => ?_, h.nd⟩; obtain ⟨b, hb2, e⟩ := List.mem_map.1 hm; exact hn b hb2 e
theorem BX.one {w W W' : World} {bs : Bxs} {g : Nat} {t : TypeId} {cs : List Value} (h : BX w bs W) (hg : W.heap.size ≤ g) (hbk : Bk W' g t cs.toArray) (hb : Below W.heap.size W W') : BX w ((g, t, cs) :: bs) W' :=
  (h.call hb).add hbk (Nat.le_trans h.bel.size hg) fun b hm e => by have := (h.bk b hm).lt; omega
set_option maxRecDepth 20000 in
set_option maxHeartbeats 4000000 in
theorem two_any {w : World} {q : Nat} {l : List Int} (hq : Bk w q 2 (l.map (Value.int .i64)).toArray) (hl : l.length ≤ 1000) :
    Calls Tryz.prog 37 #[.slice (some ⟨q, 0, none⟩) l.length l.length] w fun e W => ∃ A c, e = .returned (.slice A l.length c) ∧ l.length ≤ c ∧ RowF argF W (· < W.heap.size) A l.length (l.map fun z => (false, [VX.num z 0])) ∧ Below w.heap.size w W := by
  have HQ := Lib.hid hq; have HO := Lib.hid (OwnA.nil w w.heap.size); have HZ := Lib.hid (BX.start w); clear hq; go_enter Tryz.func37, Tryz.ntmps37; go_wp2
  go_loopw [3, 4] (fun v i wr => ∃ (k : Nat) (A' : Option Addr) (n' c' : Nat), v = .slice A' n' c' ∧ k ≤ l.length ∧ i = .int .i64 k ∧ Hid (BX w [] wr) ∧ Hid (OwnA wr w.heap.size (.slice A' n' c') ((l.take k).map fun z => (false, [VX.num z 0])))) (fun _ i _ => l.length - (intOf i).toNat)
  case atStart => exact ⟨0, none, 0, 0, rfl, Nat.zero_le _, rfl, HZ, by simpa using HO⟩
  case round =>
    clear HO HZ; obtain ⟨k, A', n', c', rfl, hk, rfl, HZ, HO⟩ := hrel
    by_cases hlt : k < l.length
    · have hlt' : (k : Int) < (l.length : Int) := by omega
      have hk0 : (0 : Int) ≤ (k : Int) := by omega
      obtain ⟨z, hx⟩ : ∃ x, l[k]? = some x := ⟨_, List.getElem?_eq_getElem hlt⟩
      have c0 : wr.cell? ⟨q, k, none⟩ = some (.int .i64 z) := by
        rw [HZ.out.bel.cell (p := ⟨q, k, none⟩) HQ.out.lt, HQ.out.cell]; simp [hx]
      have HS : Hid (((l.take (k + 1)).map fun z => (false, [VX.num z 0])) = ((l.take k).map fun z => (false, [VX.num z 0])) ++ [(false, [VX.num z 0])]) := Lib.hid (by rw [List.take_add_one, hx]; simp); have HB := Lib.hid (BX.start wr); clear hx
      repeat' (first | go_values | go_skip | go_guarded | go_step | go_upon)
      refine (lN_x z).mono ?_; rintro e W1 ⟨rfl, hb⟩; have HB := Lib.hid (HB.out.call hb); clear hb c0; dsimp only
      repeat' (first | go_values | go_skip | go_guarded | go_step | go_upon)
      refine (fOne_any (.num z 0)).mono ?_; rintro e W1 ⟨g0, hg, rfl, hbk, hb⟩; have HB := Lib.hid (HB.out.one hg hbk hb); clear hg hbk hb; dsimp only
      repeat' (first | ((with_reducible show Oper.wp _ _ _ _ _ _); apply stop_bs; exact rfl) | go_values | go_skip | go_guarded | go_step | go_upon)
      refine Lib.hid ?_; refine bs_a HB _ rfl rfl ?_; clear HB; intro g1 W HB; go_simp
      repeat' (first | ((with_reducible show Oper.wp _ _ _ _ _ _); apply stop_app; exact rfl) | go_values | go_skip | go_guarded | go_step | go_upon)
      have hWn : w.heap.size ≤ W.heap.size := Nat.le_trans HZ.out.bel.size HB.out.bel.size; have HOW : Hid (OwnA W w.heap.size (.slice A' n' c') ((l.take k).map fun z => (false, [VX.num z 0]))) := Lib.hid (OwnA.below HO.out HB.out.bel)
      have hgo : (Value.slice A' n' c').ownBlock ≠ some g0 := fun e => by
        have h1 := (HO.out.lt g0 e).2; have h2 := HB.out.lo (g0, _, _) (List.mem_cons_of_mem _ (List.mem_cons_self ..)); dsimp only at h2; omega
      refine Lib.hid ?_; refine app_a HOW.out (HB.out.get (i := 1) rfl) hgo (HB.out.get (i := 0) rfl) hWn (by rw [List.length_map, List.length_take]; omega) _ _ rfl rfl rfl ?_; intro A2 n2 c2 W2 hO2 hK2; have HO2 := Lib.hid hO2; have HZ2 : Hid (BX w [] W2) := Lib.hid (bx_past (HZ.out.call HB.out.bel) hK2 hWn (by simp) fun i hi => (own_cells HOW.out _ hi).1); clear hO2 hK2 hgo; go_simp
      repeat' (first | go_values | go_skip | go_guarded | go_step | go_upon)
      go_roundw
      case rel => exact ⟨k + 1, A2, n2, c2, rfl, by omega, by go_num, HZ2, by rw [HS.out]; exact HO2⟩
      case measure => simp [intOf]; omega
    · obtain rfl : k = l.length := by omega
      rw [List.take_length] at HO
      repeat' (first | go_values | go_skip | go_guarded | go_step | go_upon)
      go_ret; obtain ⟨A4, c4, e4, h4, hr⟩ := OwnA.read HO.out; rw [List.length_map] at e4 h4 hr; exact ⟨A4, c4, by rw [← e4]; rfl, h4, hr, HZ.out.bel⟩
end Go.Proofs.YtngkolcpbgibcaaGreatDoor
namespace Go.Proofs.YtngkolcpbgibcaaGreatDoor
open Go.RowKit
theorem row_vals {W : World} {q : Nat} {l : List VX} (h : Bk W q 32 (l.flatMap vc).toArray) : RowF valF W (· < W.heap.size) (some ⟨q, 0, none⟩) l.length l := by
  refine ⟨rfl, fun _ => ⟨_, rfl, h.lt, fun i x hi => ⟨_, rfl, fun j u hu => ?_⟩⟩⟩
  have hf := flat_get (S := l.map fun x => (vc x, x)) (k := 6) (fun q hq => by
    obtain ⟨p', hp', rfl⟩ := List.mem_map.1 hq
    exact vc_len p') (i := i) (p := (vc x, x)) (by rw [List.getElem?_map, hi]; rfl) (j := j) (u := u) hu
  rw [addr_zero, h.cell]; rw [List.flatMap_map] at hf
  simpa [valF] using hf
def PG (x : VX) : Prop := PV x ∧ GdX x
theorem pg_num {m : Int} {s : Nat} (h : Gd m s) : PG (.num m s) := ⟨⟨h, trivial⟩, fun a b e => by injection e with e1 e2; subst e1 e2; exact h⟩
theorem pg_blank : PG .blank := ⟨⟨trivial, trivial⟩, fun a b e => by injection e with e1 e2; subst e1 e2; exact gd_zero⟩
theorem pg_str {t : List UInt8} (hu : uE t = 0) (hl : t.length ≤ 100000000) (hn : ∀ m s, numX (.str t) = .ok m s → Gd m s) : PG (.str t) := ⟨⟨hu, hl⟩, hn⟩
theorem gd_small {m : Int} (h0 : -1000 ≤ m) (h1 : m ≤ 1000) : Gd m 0 := ⟨by omega, by omega, by decide, .inl rfl⟩
theorem ag_of {args : List (Bool × List VX)} (h0 : args.length ≤ 1000000) (h : ∀ a ∈ args, a.2.length ≤ 1000000 ∧ ∀ x ∈ a.2, PG x) : AG args :=
  ⟨h0, fun a ha => (h a ha).1, fun a ha x hx => ((h a ha).2 x hx).1, fun a ha x hx => ((h a ha).2 x hx).2⟩
def kArea : List VX := [.num 1 0, .str [53], .num 2 0, .blank]
theorem pg_5 : PG (.str [53]) := pg_str (by kernel_rfl) (by decide) fun m s e => by
  rw [show numX (.str [53]) = .ok 5 0 from by kernel_rfl] at e; injection e with e1 e2; subst e1 e2; exact gd_small (by decide) (by decide)
theorem pg_4 : PG (.str [52]) := pg_str (by kernel_rfl) (by decide) fun m s e => by
  rw [show numX (.str [52]) = .ok 4 0 from by kernel_rfl] at e; injection e with e1 e2; subst e1 e2; exact gd_small (by decide) (by decide)
theorem pg_x : PG (.str [120]) := pg_str (by kernel_rfl) (by decide) fun m s e => by
  rw [show numX (.str [120]) = .no (.err 15) from by kernel_rfl] at e
  cases e
theorem pg_aeb : PG (.str [97, 195, 169, 98]) := pg_str (by kernel_rfl) (by decide) fun m s e => by
  rw [show numX (.str [97, 195, 169, 98]) = .no (.err 15) from by kernel_rfl] at e
  cases e
theorem pg_area : ∀ x ∈ kArea, PG x := by
  intro x hx; simp only [kArea, List.mem_cons, List.not_mem_nil, or_false] at hx
  rcases hx with rfl | rfl | rfl | rfl
  · exact pg_num (gd_small (by decide) (by decide))
  · exact pg_5
  · exact pg_num (gd_small (by decide) (by decide))
  · exact pg_blank
theorem ag_area1 {y : VX} (hy : PG y) : AG [(true, kArea), (false, [y])] := ag_of (by simp) fun a ha => by
  simp only [List.mem_cons, List.not_mem_nil, or_false] at ha
  rcases ha with rfl | rfl
  · exact ⟨by decide, pg_area⟩
  · exact ⟨by simp, fun x hx => by simp at hx; subst hx; exact hy⟩
theorem ag_ones {l : List VX} (hl : l.length ≤ 1000000) (h : ∀ x ∈ l, PG x) : AG (l.map fun x => (false, [x])) := ag_of (by rw [List.length_map]; exact hl) fun a ha => by
  obtain ⟨x, hx, rfl⟩ := List.mem_map.1 ha; exact ⟨by simp, fun y hy => by simp at hy; subst hy; exact h _ hx⟩
section
variable {w : World} {A : Option Addr} {c : Nat}
theorem kn_0 (HF : FnT w) (h : RowF argF w (· < w.heap.size) A 2 [(true, kArea), (false, [.str [52]])]) : Ap w 0 A 2 c (.num 7 0) := by
  have := ap_0 HF (c := c) (args := [(true, kArea), (false, [.str [52]])]) h (ag_area1 pg_4) (by kernel_rfl)
  rwa [show sumN 0 (nsX (pickL [1] [(true, kArea), (false, [.str [52]])])) = .num 7 0 from by kernel_rfl] at this
theorem kn_3 (HF : FnT w) (h : RowF argF w (· < w.heap.size) A 2 [(true, kArea), (false, [.blank])]) : Ap w 3 A 2 c (.num 3 0) := by
  have := ap_3 HF (c := c) (args := [(true, kArea), (false, [.blank])]) h (ag_area1 pg_blank) (by kernel_rfl)
  rwa [show cntX (pickL [1] [(true, kArea), (false, [.blank])]) = .num 3 0 from by kernel_rfl] at this
theorem kn_4 (HF : FnT w) : Ap w 4 none 0 0 (.err 7) := by
  have := ap_4 HF (c := 0) (args := []) (RowF.nil _ _ _ none) (ag_of (by simp) (by simp)) (by kernel_rfl)
  rwa [show sumN 4 (nsX (pickL [1] [])) = .err 7 from by kernel_rfl] at this
theorem kn_28 (HF : FnT w) : Ap w 28 none 0 0 (.err 42) :=
  ap_v HF (c := 0) (args := []) (by omega) (RowF.nil _ _ _ none) (ag_of (by simp) (by simp)) (by kernel_rfl) fun W A' c' _ _ _ => ofv_28
theorem kn_8 (HF : FnT w) (h : RowF argF w (· < w.heap.size) A 2 [(false, [.num (-7) 0]), (false, [.num 3 0])]) : Ap w 8 A 2 c (.num 2 0) := by
  have g7 : PG (.num (-7) 0) := pg_num (gd_small (by decide) (by decide)); have g3 : PG (.num 3 0) := pg_num (gd_small (by decide) (by decide)); refine ap_v HF (c := c) (args := [(false, [.num (-7) 0]), (false, [.num 3 0])]) (by omega) h (ag_ones (l := [.num (-7) 0, .num 3 0]) (by simp) (by intro x hx; simp at hx; rcases hx with rfl | rfl <;> assumption)) (by kernel_rfl) fun W A' c' hW _ hr => ?_; refine ofv_8 hr fun W' hW' => ?_; have := ofTwo_any (w := W') (op := 8) (x := .num (-7) 0) (y := .num 3 0) trivial trivial g7.2 g3.2
  rwa [show twoX 8 (.num (-7) 0) (.num 3 0) = .num 2 0 from by kernel_rfl] at this
theorem kn_17 (HF : FnT w) (HT : Tens w) (HV : Val w) (h : RowF argF w (· < w.heap.size) A 3 [(false, [.str [97, 195, 169, 98]]), (false, [.num 2 0]), (false, [.num 5 0])]) : Ap w 17 A 3 c (.str [195, 169, 98]) := by
  have g2 : PG (.num 2 0) := pg_num (gd_small (by decide) (by decide)); have g5 : PG (.num 5 0) := pg_num (gd_small (by decide) (by decide)); refine ap_v HF (c := c) (args := [(false, [.str [97, 195, 169, 98]]), (false, [.num 2 0]), (false, [.num 5 0])]) (by omega) h (ag_ones (l := [.str [97, 195, 169, 98], .num 2 0, .num 5 0]) (by simp) (by intro x hx; simp at hx; rcases hx with rfl | rfl | rfl <;> first | assumption | exact pg_aeb)) (by kernel_rfl) fun W A' c' hW _ hr => ?_; refine ofv_17 hr fun W' hW' => ?_
  have := middle_any (w := W') ((HT.below hW).below hW') ((HV.below hW).below hW') (x := .str [97, 195, 169, 98]) (y := .num 2 0) (z := .num 5 0) pg_aeb.1.1 trivial trivial g2.2 g5.2 (fun l e => by
    injection e with e; subst e
    exact ⟨by kernel_rfl, by decide⟩)
  rwa [show midX (.str [97, 195, 169, 98]) (.num 2 0) (.num 5 0) = .str [195, 169, 98] from by kernel_rfl] at this
theorem kn_10 (HF : FnT w) (h : RowF argF w (· < w.heap.size) A 2 [(false, [.num 0 0]), (false, [.num 5 0])]) : Ap w 10 A 2 c (.bool false) := by
  have g0 : PG (.num 0 0) := pg_num (gd_small (by decide) (by decide)); have g5 : PG (.num 5 0) := pg_num (gd_small (by decide) (by decide)); have := ap_10 HF (c := c) (x := .num 0 0) (r := [(false, [.num 5 0])]) h (ag_ones (l := [.num 0 0, .num 5 0]) (by simp) (by intro x hx; simp at hx; rcases hx with rfl | rfl <;> assumption)) (.inl rfl) (by kernel_rfl)
  rwa [show eitherX (.num 0 0) [(false, [.num 5 0])] = .bool false from by kernel_rfl] at this
theorem kn_24 (HF : FnT w) (h : RowF argF w (· < w.heap.size) A 2 [(true, kArea), (false, [.num 3 0])]) : Ap w 24 A 2 c (.num 2 0) := by
  have := ap_24 HF (c := c) (l := kArea) (y := .num 3 0) trivial h (ag_area1 (pg_num (gd_small (by decide) (by decide)))) (by kernel_rfl)
  rwa [show indexX kArea (.num 3 0) = .num 2 0 from by kernel_rfl] at this
theorem kn_24b (HF : FnT w) (h : RowF argF w (· < w.heap.size) A 2 [(true, kArea), (false, [.num 5 0])]) : Ap w 24 A 2 c (.err 23) := by
  have := ap_24 HF (c := c) (l := kArea) (y := .num 5 0) trivial h (ag_area1 (pg_num (gd_small (by decide) (by decide)))) (by kernel_rfl)
  rwa [show indexX kArea (.num 5 0) = .err 23 from by kernel_rfl] at this
theorem kn_5 (HF : FnT w) (h : RowF argF w (· < w.heap.size) A 1 [(true, kArea)]) : Ap w 5 A 1 c (.err 15) :=
  ap_no HF (args := [(true, kArea)]) h (ag_of (by simp) (by intro a ha; simp at ha; subst ha; exact ⟨by decide, pg_area⟩)) (by kernel_rfl)
end
end Go.Proofs.YtngkolcpbgibcaaGreatDoor
namespace Go.Proofs.YtngkolcpbgibcaaGreatDoor
end Go.Proofs.YtngkolcpbgibcaaGreatDoor
namespace Go.Proofs.YtngkolcpbgibcaaGreatDoor
open Go.RowKit Go.Lib
end Go.Proofs.YtngkolcpbgibcaaGreatDoor
namespace Go.Proofs.YtngkolcpbgibcaaGreatDoor
open Go.RowKit
def MX (W : World) (q : Nat) (x : VX) (cs : List Value) (k : Nat) : Prop := cs.length = 62 ∧ ∀ i, i < k → ∃ g, cs[2 * i]? = some (.bool false) ∧ cs[2 * i + 1]? = some (.slice (some ⟨g, 0, none⟩) 1 1) ∧ g ≠ q ∧ Bk W g 32 (vc x).toArray
theorem MX.below {W W' : World} {q k : Nat} {x : VX} {cs : List Value} (h : MX W q x cs k) (hb : Below W.heap.size W W') : MX W' q x cs k := ⟨h.1, fun i hi => by
  obtain ⟨g, h0, h1, h2, h3⟩ := h.2 i hi
  exact ⟨g, h0, h1, h2, h3.below hb h3.lt⟩⟩
theorem MX.put {W W' : World} {q k g : Nat} {x : VX} {cs : List Value} (h : MX W q x cs k) (hk : k < 31) (hg : g ≠ q) (hb : Bk W g 32 (vc x).toArray) (hK : Keep (fun i => i = q) W W') :
    MX W' q x (cs.take (k * 2) ++ ac false (some ⟨g, 0, none⟩) 1 1 ++ cs.drop (k * 2 + (ac false (some ⟨g, 0, none⟩) 1 1).length)) (k + 1) := by
  have hl := h.1; refine ⟨by simp [ac]; omega, fun i hi => ?_⟩
  by_cases hik : i < k
  · obtain ⟨g', h0, h1, h2, h3⟩ := h.2 i hik; refine ⟨g', ?_, ?_, h2, hK.bk h3 h2⟩
    · rw [List.append_assoc, List.getElem?_append_left (by simp; omega), List.getElem?_take_of_lt (by omega), h0]
    · rw [List.append_assoc, List.getElem?_append_left (by simp; omega), List.getElem?_take_of_lt (by omega), h1]
  · obtain rfl : i = k := by omega
    have e : (cs.take (i * 2)).length = i * 2 := by rw [List.length_take]; omega
    refine ⟨g, ?_, ?_, hg, hK.bk hb hg⟩
    · rw [List.append_assoc, List.getElem?_append_right (by omega), e, show 2 * i - i * 2 = 0 by omega]; rfl
    · rw [List.append_assoc, List.getElem?_append_right (by omega), e, show 2 * i + 1 - i * 2 = 1 by omega]; rfl
theorem MX.row {W : World} {q : Nat} {x : VX} {cs : List Value} (h : MX W q x cs 31) (hb : Bk W q 55 cs.toArray) : RowF argF W (· < W.heap.size) (some ⟨q, 0, none⟩) 31 (List.replicate 31 (false, [x])) := by
  refine ⟨by simp, fun _ => ⟨_, rfl, hb.lt, fun i y hi => ?_⟩⟩
  have hi31 : i < 31 := by
    have := (List.getElem?_eq_some_iff.1 hi).1
    simpa using this
  obtain rfl : y = (false, [x]) := by
    rw [List.getElem?_replicate, if_pos hi31] at hi; exact (Option.some.inj hi).symm
  obtain ⟨g, h0, h1, h2, h3⟩ := h.2 i hi31; refine ⟨ac false (some ⟨g, 0, none⟩) 1 1, ⟨_, 1, rfl, Nat.le_refl _, rfl, fun _ => ⟨_, rfl, h3.lt, fun i y hi => ?_⟩⟩, fun j u hu => ?_⟩
  · cases i with
    | zero =>
      simp only [List.getElem?_cons_zero, Option.some.injEq] at hi; subst hi; exact ⟨_, rfl, fun j u hu => by rw [Nat.zero_mul, Nat.zero_add, addr_zero, h3.cell]; simpa using hu⟩
    | succ i => simp at hi
  · have hu' : (ac false (some ⟨g, 0, none⟩) 1 1)[j]? = some u := hu; rw [addr_zero, hb.cell]
    rcases j with _ | _ | j
    · have : u = .bool false := by simpa [ac] using hu'.symm
      subst this; have : cs.toArray[i * 2 + 0]? = cs[2 * i]? := by rw [List.getElem?_toArray, show i * 2 + 0 = 2 * i by omega]
      exact this.trans h0
    · have : u = .slice (some ⟨g, 0, none⟩) 1 1 := by simpa [ac] using hu'.symm
      subst this; have : cs.toArray[i * 2 + 1]? = cs[2 * i + 1]? := by rw [List.getElem?_toArray, show i * 2 + 1 = 2 * i + 1 by omega]
      exact this.trans h1
    · simp [ac] at hu'
section
variable {o : Oper} {a : Act} {w W : World} {K : Act → World → Prop} {Q : Exit → Act → World → Prop} {bs : Bxs} {g : Nat} {T : TypeId} {cs : List Value} {b : Bool} {A : Option Addr} {n c : Nat}
end
section
variable {w : World} {A : Option Addr} {c : Nat} {x : VX}
end
end Go.Proofs.YtngkolcpbgibcaaGreatDoor
namespace Go.Proofs.YtngkolcpbgibcaaGreatDoor
open Go.RowKit Go.Lib
theorem row2 {W : World} {q a b : Nat} {x y : VX} (hq : Bk W q 55 (ac false (some ⟨a, 0, none⟩) 1 1 ++ ac false (some ⟨b, 0, none⟩) 1 1).toArray) (ha : Bk W a 32 (vc x).toArray) (hb : Bk W b 32 (vc y).toArray) : RowF argF W (· < W.heap.size) (some ⟨q, 0, none⟩) 2 [(false, [x]), (false, [y])] := by
  refine row_args (L := [(.agg (ac false (some ⟨a, 0, none⟩) 1 1).toArray, (false, [x])), (.agg (ac false (some ⟨b, 0, none⟩) 1 1).toArray, (false, [y]))]) (fun p hp => ?_) (by simpa [agCs] using hq); simp only [List.mem_cons, List.not_mem_nil, or_false] at hp
  rcases hp with rfl | rfl
  · exact argv_one ha
  · exact argv_one hb
section
variable {w : World} {A : Option Addr} {c : Nat} {x y z : VX}
end
end Go.Proofs.YtngkolcpbgibcaaGreatDoor
