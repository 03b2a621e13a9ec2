/- fun.Apply by its contract, function by function. Condition: the tables are laid; values may be. -/
/- cashbooklaw11.two by its contract. Condition: few numbers. -/
/- What known asks of Apply, call by call. Condition: the tables are laid. -/
/- What a text reads as is a decimal that may be. No program; no condition. -/
import Derived.Test.YtngkolcpbgibcaaGreatDoorA1
import Derived.Test.YtngkolcpbgibcaaGreatDoorA2
import Derived.Test.YtngkolcpbgibcaaGreatDoorO1
import Derived.Test.YtngkolcpbgibcaaGreatDoorO2
import Derived.Test.YtngkolcpbgibcaaGreatDoorN2
import Derived.Test.YtngkolcpbgibcaaGreatDoorN4
import Derived.Test.YtngkolcpbgibcaaGreatDoorF5
import Derived.Test.YtngkolcpbgibcaaGreatDoorF9m
import Derived.Test.YtngkolcpbgibcaaGreatDoorT2
import Derived.Test.YtngkolcpbgibcaaGreatDoorN3
import Derived.Test.YtngkolcpbgibcaaGreatDoorN5
import Derived.Test.YtngkolcpbgibcaaGreatDoorN6
import Derived.Test.YtngkolcpbgibcaaGreatDoorKa
set_option linter.unusedVariables false
set_option linter.unusedSimpArgs false
namespace Go.Proofs.YtngkolcpbgibcaaGreatDoor
open Go.RowKit
structure AG (args : List (Bool × List VX)) : Prop where
  few : args.length ≤ 1000000
  vals : ∀ a ∈ args, a.2.length ≤ 1000000
  pv : ∀ a ∈ args, ∀ x ∈ a.2, PV x
  gd : ∀ a ∈ args, ∀ x ∈ a.2, GdX x
theorem row_up {w W : World} {A : Option Addr} {n : Nat} {args : List (Bool × List VX)} (h : RowF argF w (· < w.heap.size) A n args) (hW : Below w.heap.size w W) : RowF argF W (· < W.heap.size) A n args := (h.below hW (Nat.le_refl _)).mono hW.size
theorem pick_mem {ks : List Int} {args : List (Bool × List VX)} {x : VX} (h : x ∈ pickL ks args) : ∃ a ∈ args, x ∈ a.2 := by
  unfold pickL at h; obtain ⟨a, ha, hx⟩ := List.mem_flatMap.1 h; exact ⟨a, ha, (List.mem_filter.1 hx).1⟩
theorem AG.pick {args : List (Bool × List VX)} (h : AG args) (ks : List Int) : ∀ x ∈ pickL ks args, GdX x := fun x hx => by
  obtain ⟨a, ha, hm⟩ := pick_mem hx; exact h.gd a ha x hm
def Ap (w : World) (op : Int) (A : Option Addr) (n c : Nat) (r : VX) : Prop := Calls Tryz.prog 14 #[.int .i64 op, .slice A n c] w fun e W => e = .returned (.agg (vc r).toArray) ∧ Below w.heap.size w W
section
variable {w : World} {A : Option Addr} {c : Nat} {args : List (Bool × List VX)}
theorem tk (HF : FnT w) {op : Int} (h : RowF argF w (· < w.heap.size) A args.length args) (ag : AG args) {b : Bool} (ht : takesB op args = b) : ∀ W, Below w.heap.size w W → Calls Tryz.prog 40 #[.int .i64 op, .slice A args.length c] W fun e W' => e = .returned (.bool b) ∧ Below W.heap.size W W' := fun W hW => by
  have := takes_any (HF.below hW) (k := op) (c := c) (row_up h hW) ag.few
  rwa [ht] at this
theorem ap_no (HF : FnT w) {op : Int} (h : RowF argF w (· < w.heap.size) A args.length args) (ag : AG args) (ht : takesB op args = false) : Ap w op A args.length c (.err 15) := apply_no (tk HF h ag ht)
theorem ap_0 (HF : FnT w) (h : RowF argF w (· < w.heap.size) A args.length args) (ag : AG args) (ht : takesB 0 args = true) : Ap w 0 A args.length c (sumN 0 (nsX (pickL [1] args))) :=
  apply_0 (tk HF h ag ht) fun W hW => sum_any (row_up h hW) ag.few ag.vals ag.pv (ag.pick _)
theorem ap_4 (HF : FnT w) (h : RowF argF w (· < w.heap.size) A args.length args) (ag : AG args) (ht : takesB 4 args = true) : Ap w 4 A args.length c (sumN 4 (nsX (pickL [1] args))) :=
  apply_4 (tk HF h ag ht) fun W hW => sum_any (row_up h hW) ag.few ag.vals ag.pv (ag.pick _)
theorem ap_3 (HF : FnT w) (h : RowF argF w (· < w.heap.size) A args.length args) (ag : AG args) (ht : takesB 3 args = true) : Ap w 3 A args.length c (cntX (pickL [1] args)) :=
  apply_3 (tk HF h ag ht) fun W hW => count_any (row_up h hW) ag.few ag.vals ag.pv
theorem ap_10 (HF : FnT w) {x : VX} {r : List (Bool × List VX)} (h : RowF argF w (· < w.heap.size) A ((false, [x]) :: r).length ((false, [x]) :: r)) (ag : AG ((false, [x]) :: r)) (hr : r.length = 1 ∨ r.length = 2) (ht : takesB 10 ((false, [x]) :: r) = true) : Ap w 10 A ((false, [x]) :: r).length c (eitherX x r) :=
  apply_10 (tk HF h ag ht) fun W hW => either_any (row_up h hW) hr
theorem ap_23 (HF : FnT w) {x : VX} {y : Bool × List VX} (h : RowF argF w (· < w.heap.size) A 2 [(false, [x]), y]) (ag : AG [(false, [x]), y]) (ht : takesB 23 [(false, [x]), y] = true) : Ap w 23 A 2 c (unlessX x y) :=
  apply_23 (tk (args := [(false, [x]), y]) HF h ag ht) fun W hW => unless_any (row_up h hW)
theorem ap_25 (HF : FnT w) {x : VX} (hs : shortX 100000000 x) {r : List (Bool × List VX)} (h : RowF argF w (· < w.heap.size) A ((false, [x]) :: r).length ((false, [x]) :: r)) (ag : AG ((false, [x]) :: r)) (ht : takesB 25 ((false, [x]) :: r) = true) : Ap w 25 A ((false, [x]) :: r).length c (chooseX x r) :=
  apply_25 (tk HF h ag ht) fun W hW => choose_any hs (by have := ag.few; simp at this; omega) (row_up h hW)
theorem ap_24 (HF : FnT w) {l : List VX} {y : VX} (hs : shortX 100000000 y) (h : RowF argF w (· < w.heap.size) A 2 [(true, l), (false, [y])]) (ag : AG [(true, l), (false, [y])]) (ht : takesB 24 [(true, l), (false, [y])] = true) : Ap w 24 A 2 c (indexX l y) := by
  obtain ⟨aa, rfl, hall⟩ := args_all h (by simp); obtain ⟨A1, c1, hA⟩ := hall 0 _ rfl; obtain ⟨A2, c2, hB⟩ := hall 1 _ rfl; obtain ⟨a2, rfl, hc, hv⟩ := hB.one; exact apply_24 (tk (args := [(true, l), (false, [y])]) HF h ag ht) (fun W hW => (hA.below hW).cell 1 _ rfl) (fun W hW => hc W hW 1 _ rfl) hv fun W hW => index_any hs (ag.vals (true, l) (List.mem_cons_self ..)) (hA.below hW).row
theorem takes_one {op : Int} (ht : takesB op args = true) (h1 : ¬ (op = 10 ∨ op = 23 ∨ op = 25)) (h2 : ¬ op = 24) (h3 : manyB op = false) : ∀ a ∈ args, a.1 = false ∧ a.2.length = 1 := by
  intro a ha; unfold takesB at ht
  split at ht
  · split at ht
    · rw [Bool.and_eq_true] at ht; have := ht.2; unfold shB at this; rw [if_neg h1, if_neg h2, List.all_eq_true] at this; have := this a ha; unfold okA at this; rw [h3, Bool.and_false, Bool.or_false] at this
      simpa [oneB] using this
    · cases ht
  · cases ht
theorem ap_v (HF : FnT w) {op : Int} (hop : ¬ (op = 0 ∨ op = 4 ∨ op = 1 ∨ op = 2 ∨ op = 3 ∨ op = 11 ∨ op = 12 ∨ op = 18 ∨ op = 10 ∨ op = 23 ∨ op = 25 ∨ op = 24)) (h : RowF argF w (· < w.heap.size) A args.length args) (ag : AG args) (ht : takesB op args = true) {r : VX}
    (HC : ∀ W A' c', Below w.heap.size w W → args.length ≤ c' → RowF valF W (· < W.heap.size) A' args.length (args.map oneV) → Calls Tryz.prog 50 #[.int .i64 op, .slice A' args.length c'] W fun e W' => e = .returned (.agg (vc r).toArray) ∧ Below W.heap.size W W') : Ap w op A args.length c r :=
  apply_v hop (tk HF h ag ht) (fun W hW => values_any (row_up h hW) ag.few fun a ha => (takes_one ht (by omega) (by omega) (decide_eq_false (by omega)) a ha).2) HC
end
end Go.Proofs.YtngkolcpbgibcaaGreatDoor
namespace Go.Proofs.YtngkolcpbgibcaaGreatDoor
open Go.RowKit
section
variable {o : Oper} {a : Act} {w W : World} {K : Act → World → Prop} {Q : Exit → Act → World → Prop} {bs : Bxs} {b : Bool} {A : Option Addr} {n c : Nat}
theorem bs_a (H : Hid (BX w bs W)) (x : Operand) (ho : o.op = .buildSlice 34 1 #[(0, x)]) (hx : a.eval x = .agg (ac b A n c).toArray) (h : ∀ g W', Hid (BX w ((g, 55, ac b A n c) :: bs) W') → K (a.put o.dst (.slice (some ⟨g, 0, none⟩) 1 1)) W') : o.wp Tryz.prog a W K Q := by
  have hm := H.out.made 55 (ac b A n c); unfold Oper.wp execOp; rw [ho]; simp only [List.map_toArray, List.map_cons, List.map_nil, hx]; clear ho hx; simp only [ac] at hm h ⊢; go_simp; exact h _ _ (Lib.hid hm)
end
theorem BX.add {w W : World} {bs : Bxs} {g : Nat} {t : TypeId} {cs : List Value} (h : BX w bs W) (hb : Bk W g t cs.toArray) (hlo : w.heap.size ≤ g) (hn : ∀ b ∈ bs, b.1 ≠ g) : BX w ((g, t, cs) :: bs) W := by
  refine ⟨h.bel, fun b hm => ?_, fun b hm => ?_, ?_⟩
  · rcases List.mem_cons.1 hm with rfl | hm
    · exact hlo
    · exact h.lo b hm
  · rcases List.mem_cons.1 hm with rfl | hm
    · exact hb
    · exact h.bk b hm
  · rw [List.map_cons, List.nodup_cons]; refine ⟨fun hm => ?_, h.nd⟩; obtain ⟨b, hb2, e⟩ := List.mem_map.1 hm; exact hn b hb2 e
theorem BX.one {w W W' : World} {bs : Bxs} {g : Nat} {t : TypeId} {cs : List Value} (h : BX w bs W) (hg : W.heap.size ≤ g) (hbk : Bk W' g t cs.toArray) (hb : Below W.heap.size W W') : BX w ((g, t, cs) :: bs) W' :=
  (h.call hb).add hbk (Nat.le_trans h.bel.size hg) fun b hm e => by have := (h.bk b hm).lt; omega
set_option maxRecDepth 20000 in
set_option maxHeartbeats 4000000 in
theorem two_any {w : World} {q : Nat} {l : List Int} (hq : Bk w q 2 (l.map (Value.int .i64)).toArray) (hl : l.length ≤ 1000) :
    Calls Tryz.prog 37 #[.slice (some ⟨q, 0, none⟩) l.length l.length] w fun e W => ∃ A c, e = .returned (.slice A l.length c) ∧ l.length ≤ c ∧ RowF argF W (· < W.heap.size) A l.length (l.map fun z => (false, [VX.num z 0])) ∧ Below w.heap.size w W := by
  have HQ := Lib.hid hq; have HO := Lib.hid (OwnA.nil w w.heap.size); have HZ := Lib.hid (BX.start w); clear hq; go_enter Tryz.func37, Tryz.ntmps37; go_wp2
  go_loopw [3, 4] (fun v i wr => ∃ (k : Nat) (A' : Option Addr) (n' c' : Nat), v = .slice A' n' c' ∧ k ≤ l.length ∧ i = .int .i64 k ∧ Hid (BX w [] wr) ∧ Hid (OwnA wr w.heap.size (.slice A' n' c') ((l.take k).map fun z => (false, [VX.num z 0])))) (fun _ i _ => l.length - (intOf i).toNat)
  case atStart => exact ⟨0, none, 0, 0, rfl, Nat.zero_le _, rfl, HZ, by simpa using HO⟩
  case round =>
    clear HO HZ; obtain ⟨k, A', n', c', rfl, hk, rfl, HZ, HO⟩ := hrel
    by_cases hlt : k < l.length
    · have hlt' : (k : Int) < (l.length : Int) := by omega
      have hk0 : (0 : Int) ≤ (k : Int) := by omega
      obtain ⟨z, hx⟩ : ∃ x, l[k]? = some x := ⟨_, List.getElem?_eq_getElem hlt⟩
      have c0 : wr.cell? ⟨q, k, none⟩ = some (.int .i64 z) := by
        rw [HZ.out.bel.cell (p := ⟨q, k, none⟩) HQ.out.lt, HQ.out.cell]; simp [hx]
      have HS : Hid (((l.take (k + 1)).map fun z => (false, [VX.num z 0])) = ((l.take k).map fun z => (false, [VX.num z 0])) ++ [(false, [VX.num z 0])]) := Lib.hid (by rw [List.take_add_one, hx]; simp); have HB := Lib.hid (BX.start wr); clear hx
      repeat' (first | go_values | go_skip | go_guarded | go_step | go_upon)
      refine (lN_x z).mono ?_; rintro e W1 ⟨rfl, hb⟩; have HB := Lib.hid (HB.out.call hb); clear hb c0; dsimp only
      repeat' (first | go_values | go_skip | go_guarded | go_step | go_upon)
      refine (fOne_any (.num z 0)).mono ?_; rintro e W1 ⟨g0, hg, rfl, hbk, hb⟩; have HB := Lib.hid (HB.out.one hg hbk hb); clear hg hbk hb; dsimp only
      repeat' (first | ((with_reducible show Oper.wp _ _ _ _ _ _); apply stop_bs; exact rfl) | go_values | go_skip | go_guarded | go_step | go_upon)
      refine Lib.hid ?_; refine bs_a HB _ rfl rfl ?_; clear HB; intro g1 W HB; go_simp
      repeat' (first | ((with_reducible show Oper.wp _ _ _ _ _ _); apply stop_app; exact rfl) | go_values | go_skip | go_guarded | go_step | go_upon)
      have hWn : w.heap.size ≤ W.heap.size := Nat.le_trans HZ.out.bel.size HB.out.bel.size; have HOW : Hid (OwnA W w.heap.size (.slice A' n' c') ((l.take k).map fun z => (false, [VX.num z 0]))) := Lib.hid (OwnA.below HO.out HB.out.bel)
      have hgo : (Value.slice A' n' c').ownBlock ≠ some g0 := fun e => by
        have h1 := (HO.out.lt g0 e).2; have h2 := HB.out.lo (g0, _, _) (List.mem_cons_of_mem _ (List.mem_cons_self ..)); dsimp only at h2; omega
      refine Lib.hid ?_; refine app_a HOW.out (HB.out.get (i := 1) rfl) hgo (HB.out.get (i := 0) rfl) hWn (by rw [List.length_map, List.length_take]; omega) _ _ rfl rfl rfl ?_; intro A2 n2 c2 W2 hO2 hK2; have HO2 := Lib.hid hO2; have HZ2 : Hid (BX w [] W2) := Lib.hid (bx_past (HZ.out.call HB.out.bel) hK2 hWn (by simp) fun i hi => (own_cells HOW.out _ hi).1); clear hO2 hK2 hgo; go_simp
      repeat' (first | go_values | go_skip | go_guarded | go_step | go_upon)
      go_roundw
      case rel => exact ⟨k + 1, A2, n2, c2, rfl, by omega, by go_num, HZ2, by rw [HS.out]; exact HO2⟩
      case measure => simp [intOf]; omega
    · obtain rfl : k = l.length := by omega
      rw [List.take_length] at HO
      repeat' (first | go_values | go_skip | go_guarded | go_step | go_upon)
      go_ret; obtain ⟨A4, c4, e4, h4, hr⟩ := OwnA.read HO.out; rw [List.length_map] at e4 h4 hr; exact ⟨A4, c4, by rw [← e4]; rfl, h4, hr, HZ.out.bel⟩
end Go.Proofs.YtngkolcpbgibcaaGreatDoor
namespace Go.Proofs.YtngkolcpbgibcaaGreatDoor
open Go.RowKit
theorem row_vals {W : World} {q : Nat} {l : List VX} (h : Bk W q 32 (l.flatMap vc).toArray) : RowF valF W (· < W.heap.size) (some ⟨q, 0, none⟩) l.length l := by
  refine ⟨rfl, fun _ => ⟨_, rfl, h.lt, fun i x hi => ⟨_, rfl, fun j u hu => ?_⟩⟩⟩
  have hf := flat_get (S := l.map fun x => (vc x, x)) (k := 6) (fun q hq => by
    obtain ⟨p', hp', rfl⟩ := List.mem_map.1 hq
    exact vc_len p') (i := i) (p := (vc x, x)) (by rw [List.getElem?_map, hi]; rfl) (j := j) (u := u) hu
  rw [addr_zero, h.cell]; rw [List.flatMap_map] at hf
  simpa [valF] using hf
def PG (x : VX) : Prop := PV x ∧ GdX x
theorem pg_num {m : Int} {s : Nat} (h : Gd m s) : PG (.num m s) := ⟨⟨h, trivial⟩, fun a b e => by injection e with e1 e2; subst e1 e2; exact h⟩
theorem pg_blank : PG .blank := ⟨⟨trivial, trivial⟩, fun a b e => by injection e with e1 e2; subst e1 e2; exact gd_zero⟩
theorem pg_bool (b : Bool) : PG (.bool b) := ⟨⟨trivial, trivial⟩, fun a s e => by injection e with e1 e2; subst e1 e2; cases b <;> exact ⟨by decide, by decide, by decide, .inl rfl⟩⟩
theorem pg_str {t : List UInt8} (hu : uE t = 0) (hl : t.length ≤ 100000000) (hn : ∀ m s, numX (.str t) = .ok m s → Gd m s) : PG (.str t) := ⟨⟨hu, hl⟩, hn⟩
theorem gd_small {m : Int} (h0 : -1000 ≤ m) (h1 : m ≤ 1000) : Gd m 0 := ⟨by omega, by omega, by decide, .inl rfl⟩
theorem ag_of {args : List (Bool × List VX)} (h0 : args.length ≤ 1000000) (h : ∀ a ∈ args, a.2.length ≤ 1000000 ∧ ∀ x ∈ a.2, PG x) : AG args :=
  ⟨h0, fun a ha => (h a ha).1, fun a ha x hx => ((h a ha).2 x hx).1, fun a ha x hx => ((h a ha).2 x hx).2⟩
def kArea : List VX := [.num 1 0, .str [53], .num 2 0, .blank]
theorem pg_5 : PG (.str [53]) := pg_str (by kernel_rfl) (by decide) fun m s e => by
  rw [show numX (.str [53]) = .ok 5 0 from by kernel_rfl] at e; injection e with e1 e2; subst e1 e2; exact gd_small (by decide) (by decide)
theorem pg_4 : PG (.str [52]) := pg_str (by kernel_rfl) (by decide) fun m s e => by
  rw [show numX (.str [52]) = .ok 4 0 from by kernel_rfl] at e; injection e with e1 e2; subst e1 e2; exact gd_small (by decide) (by decide)
theorem pg_x : PG (.str [120]) := pg_str (by kernel_rfl) (by decide) fun m s e => by
  rw [show numX (.str [120]) = .no (.err 15) from by kernel_rfl] at e
  cases e
theorem pg_aeb : PG (.str [97, 195, 169, 98]) := pg_str (by kernel_rfl) (by decide) fun m s e => by
  rw [show numX (.str [97, 195, 169, 98]) = .no (.err 15) from by kernel_rfl] at e
  cases e
theorem pg_area : ∀ x ∈ kArea, PG x := by
  intro x hx; simp only [kArea, List.mem_cons, List.not_mem_nil, or_false] at hx
  rcases hx with rfl | rfl | rfl | rfl
  · exact pg_num (gd_small (by decide) (by decide))
  · exact pg_5
  · exact pg_num (gd_small (by decide) (by decide))
  · exact pg_blank
theorem ag_area1 {y : VX} (hy : PG y) : AG [(true, kArea), (false, [y])] := ag_of (by simp) fun a ha => by
  simp only [List.mem_cons, List.not_mem_nil, or_false] at ha
  rcases ha with rfl | rfl
  · exact ⟨by decide, pg_area⟩
  · exact ⟨by simp, fun x hx => by simp at hx; subst hx; exact hy⟩
theorem ag_ones {l : List VX} (hl : l.length ≤ 1000000) (h : ∀ x ∈ l, PG x) : AG (l.map fun x => (false, [x])) := ag_of (by rw [List.length_map]; exact hl) fun a ha => by
  obtain ⟨x, hx, rfl⟩ := List.mem_map.1 ha; exact ⟨by simp, fun y hy => by simp at hy; subst hy; exact h _ hx⟩
section
variable {w : World} {A : Option Addr} {c : Nat}
theorem kn_0 (HF : FnT w) (h : RowF argF w (· < w.heap.size) A 2 [(true, kArea), (false, [.str [52]])]) : Ap w 0 A 2 c (.num 7 0) := by
  have := ap_0 HF (c := c) (args := [(true, kArea), (false, [.str [52]])]) h (ag_area1 pg_4) (by kernel_rfl)
  rwa [show sumN 0 (nsX (pickL [1] [(true, kArea), (false, [.str [52]])])) = .num 7 0 from by kernel_rfl] at this
theorem kn_3 (HF : FnT w) (h : RowF argF w (· < w.heap.size) A 2 [(true, kArea), (false, [.blank])]) : Ap w 3 A 2 c (.num 3 0) := by
  have := ap_3 HF (c := c) (args := [(true, kArea), (false, [.blank])]) h (ag_area1 pg_blank) (by kernel_rfl)
  rwa [show cntX (pickL [1] [(true, kArea), (false, [.blank])]) = .num 3 0 from by kernel_rfl] at this
theorem kn_4 (HF : FnT w) : Ap w 4 none 0 0 (.err 7) := by
  have := ap_4 HF (c := 0) (args := []) (RowF.nil _ _ _ none) (ag_of (by simp) (by simp)) (by kernel_rfl)
  rwa [show sumN 4 (nsX (pickL [1] [])) = .err 7 from by kernel_rfl] at this
theorem kn_28 (HF : FnT w) : Ap w 28 none 0 0 (.err 42) :=
  ap_v HF (c := 0) (args := []) (by omega) (RowF.nil _ _ _ none) (ag_of (by simp) (by simp)) (by kernel_rfl) fun W A' c' _ _ _ => ofv_28
theorem kn_8 (HF : FnT w) (h : RowF argF w (· < w.heap.size) A 2 [(false, [.num (-7) 0]), (false, [.num 3 0])]) : Ap w 8 A 2 c (.num 2 0) := by
  have g7 : PG (.num (-7) 0) := pg_num (gd_small (by decide) (by decide)); have g3 : PG (.num 3 0) := pg_num (gd_small (by decide) (by decide)); refine ap_v HF (c := c) (args := [(false, [.num (-7) 0]), (false, [.num 3 0])]) (by omega) h (ag_ones (l := [.num (-7) 0, .num 3 0]) (by simp) (by intro x hx; simp at hx; rcases hx with rfl | rfl <;> assumption)) (by kernel_rfl) fun W A' c' hW _ hr => ?_; refine ofv_8 hr fun W' hW' => ?_; have := ofTwo_any (w := W') (op := 8) (x := .num (-7) 0) (y := .num 3 0) trivial trivial g7.2 g3.2
  rwa [show twoX 8 (.num (-7) 0) (.num 3 0) = .num 2 0 from by kernel_rfl] at this
theorem kn_17 (HF : FnT w) (HT : Tens w) (HV : Val w) (h : RowF argF w (· < w.heap.size) A 3 [(false, [.str [97, 195, 169, 98]]), (false, [.num 2 0]), (false, [.num 5 0])]) : Ap w 17 A 3 c (.str [195, 169, 98]) := by
  have g2 : PG (.num 2 0) := pg_num (gd_small (by decide) (by decide)); have g5 : PG (.num 5 0) := pg_num (gd_small (by decide) (by decide)); refine ap_v HF (c := c) (args := [(false, [.str [97, 195, 169, 98]]), (false, [.num 2 0]), (false, [.num 5 0])]) (by omega) h (ag_ones (l := [.str [97, 195, 169, 98], .num 2 0, .num 5 0]) (by simp) (by intro x hx; simp at hx; rcases hx with rfl | rfl | rfl <;> first | assumption | exact pg_aeb)) (by kernel_rfl) fun W A' c' hW _ hr => ?_; refine ofv_17 hr fun W' hW' => ?_
  have := middle_any (w := W') ((HT.below hW).below hW') ((HV.below hW).below hW') (x := .str [97, 195, 169, 98]) (y := .num 2 0) (z := .num 5 0) pg_aeb.1.1 trivial trivial g2.2 g5.2 (fun l e => by
    injection e with e; subst e
    exact ⟨by kernel_rfl, by decide⟩)
  rwa [show midX (.str [97, 195, 169, 98]) (.num 2 0) (.num 5 0) = .str [195, 169, 98] from by kernel_rfl] at this
theorem kn_10 (HF : FnT w) (h : RowF argF w (· < w.heap.size) A 2 [(false, [.num 0 0]), (false, [.num 5 0])]) : Ap w 10 A 2 c (.bool false) := by
  have g0 : PG (.num 0 0) := pg_num (gd_small (by decide) (by decide)); have g5 : PG (.num 5 0) := pg_num (gd_small (by decide) (by decide)); have := ap_10 HF (c := c) (x := .num 0 0) (r := [(false, [.num 5 0])]) h (ag_ones (l := [.num 0 0, .num 5 0]) (by simp) (by intro x hx; simp at hx; rcases hx with rfl | rfl <;> assumption)) (.inl rfl) (by kernel_rfl)
  rwa [show eitherX (.num 0 0) [(false, [.num 5 0])] = .bool false from by kernel_rfl] at this
theorem kn_24 (HF : FnT w) (h : RowF argF w (· < w.heap.size) A 2 [(true, kArea), (false, [.num 3 0])]) : Ap w 24 A 2 c (.num 2 0) := by
  have := ap_24 HF (c := c) (l := kArea) (y := .num 3 0) trivial h (ag_area1 (pg_num (gd_small (by decide) (by decide)))) (by kernel_rfl)
  rwa [show indexX kArea (.num 3 0) = .num 2 0 from by kernel_rfl] at this
theorem kn_24b (HF : FnT w) (h : RowF argF w (· < w.heap.size) A 2 [(true, kArea), (false, [.num 5 0])]) : Ap w 24 A 2 c (.err 23) := by
  have := ap_24 HF (c := c) (l := kArea) (y := .num 5 0) trivial h (ag_area1 (pg_num (gd_small (by decide) (by decide)))) (by kernel_rfl)
  rwa [show indexX kArea (.num 5 0) = .err 23 from by kernel_rfl] at this
theorem kn_5 (HF : FnT w) (h : RowF argF w (· < w.heap.size) A 1 [(true, kArea)]) : Ap w 5 A 1 c (.err 15) :=
  ap_no HF (args := [(true, kArea)]) h (ag_of (by simp) (by intro a ha; simp at ha; subst ha; exact ⟨by decide, pg_area⟩)) (by kernel_rfl)
end
end Go.Proofs.YtngkolcpbgibcaaGreatDoor
namespace Go.Proofs.YtngkolcpbgibcaaGreatDoor
theorem rrun_last {b : Nat} {c : UInt8} : ∀ (l : List UInt8) (k : Nat) (dot : Option Nat) (D : List Nat) {dot' : Option Nat} {D' : List Nat}, rrun b k (l ++ [c]) dot D = some (dot', D') → dot' = some (k + l.length) ∨ dq c = true ∧ D'.head? = some (qv c)
  | [], k, dot, D, dot', D', h => by
    simp only [List.nil_append, rrun, rstep] at h
    by_cases h1 : c = 46 ∧ dot = none ∧ b < k
    · rw [if_pos h1] at h; injection h with h; injection h with h h2; exact .inl (by rw [← h]; simp)
    · rw [if_neg h1] at h
      by_cases h2 : dq c = true
      · rw [if_pos h2] at h; injection h with h; injection h with h h3; exact .inr ⟨h2, by rw [← h3]; rfl⟩
      · rw [if_neg h2] at h
        cases h
  | x :: l, k, dot, D, dot', D', h => by
    rw [List.cons_append, rrun] at h
    split at h
    · cases h
    · have := rrun_last l (k + 1) _ _ h; rw [List.length_cons, show k + (l.length + 1) = k + 1 + l.length by omega]; exact this
theorem refN_gd {b z : Bool} {n pl : Nat} (h : (refN b n pl z).e = 0) (hz : 0 < pl → z = false → n % 10 ≠ 0) : Gd (refN b n pl z).m (refN b n pl z).s := by
  unfold refN at h ⊢
  by_cases h1 : n = 0 ∧ b = true ∧ pl = 0
  · rw [if_pos h1] at h
    cases h
  rw [if_neg h1] at h ⊢
  by_cases h2 : n ≤ most (b && !(n == 0))
  · rw [if_pos h2] at h ⊢
    by_cases h3 : 9 < pl ∨ 0 < pl ∧ z = true
    · rw [if_pos h3] at h
      cases h
    · rw [if_neg h3]
      have hl : pl = 0 ∨ n % 10 ≠ 0 := by
        by_cases hp : pl = 0
        · exact .inl hp
        · refine .inr (hz (by omega) ?_)
          cases z
          · rfl
          · exact absurd (.inr ⟨by omega, rfl⟩) h3
      show Gd (sgn (b && !(n == 0)) n) pl
      generalize (b && !(n == 0)) = c at *
      cases c <;> simp only [most, sgn, if_true, if_false, Bool.false_eq_true] at h2 ⊢
      · exact ⟨by omega, by omega, by omega, by rw [Int.natAbs_natCast]; exact hl⟩
      · exact ⟨by omega, by omega, by omega, by rw [Int.natAbs_neg, Int.natAbs_natCast]; exact hl⟩
  · rw [if_neg h2] at h
    cases h
theorem pD_gd {l : List UInt8} (h : (pD l).e = 0) : Gd (pD l).m (pD l).s := by
  unfold pD refM at h ⊢; generalize (pre (isNeg l)).length = k at *; generalize isNeg l = b at *
  rcases hr : rrun k k (l.drop k) none [] with _ | ⟨_ | d, D⟩
  · rw [hr] at h
    cases h
  · rw [hr] at h; dsimp only at h ⊢
    split at h
    · cases h
    · rename_i h1
      rw [if_neg h1]; exact refN_gd h fun h0 => absurd h0 (by omega)
  · rw [hr] at h; dsimp only at h ⊢
    split at h
    · cases h
    · rename_i h1
      rw [if_neg h1]; refine refN_gd h fun h0 hz => ?_
      rcases List.eq_nil_or_concat (l.drop k) with e | ⟨i, c, e⟩
      · rw [e] at hr
        cases hr
      · have e' : l.drop k = i ++ [c] := by rw [e]; simp
        have hlen : l.length = k + i.length + 1 := by
          have := congrArg List.length e'; rw [List.length_drop, List.length_append, List.length_singleton] at this; omega
        have hc : l.getLast? = some c := by
          have : l = l.take k ++ (i ++ [c]) := by rw [← e', List.take_append_drop]
          rw [this, ← List.append_assoc, List.getLast?_append]; rfl
        rw [e'] at hr
        rcases rrun_last i k none [] hr with hd | ⟨hq, hd⟩
        · injection hd with hd; exact absurd (.inr (.inl (by omega))) h1
        · rcases D with _ | ⟨x, D⟩
          · cases hd
          · injection hd with hd; subst hd
            have hne : c ≠ 48 := by
              intro e48; rw [hc, e48] at hz
              cases hz
            have q10 := qv_lt hq
            have q0 : qv c ≠ 0 := by
              simp only [dq, Bool.and_eq_true, decide_eq_true_eq] at hq; unfold qv; intro h; apply hne; apply UInt8.toNat_inj.1
              show c.toNat = 48
              omega
            show (qv c + 10 * dval D) % 10 ≠ 0
            omega
theorem okX_gd {x : VX} (h : OkX x) : GdX x := by
  intro m s e
  cases x with
  | blank => injection e with e1 e2; subst e1 e2; exact gd_zero
  | num m' s' => injection e with e1 e2; subst e1 e2; exact h
  | str t =>
    simp only [numX] at e
    split at e
    · rename_i h0
      injection e with e1 e2; subst e1 e2; exact pD_gd h0
    · cases e
  | bool b => exact (pg_bool b).2 m s e
  | err e' => cases e
theorem okX_pg {x : VX} (h : OkX x) (hs : shortX 100000000 x) : PG x := ⟨⟨h, hs⟩, okX_gd h⟩
end Go.Proofs.YtngkolcpbgibcaaGreatDoor
