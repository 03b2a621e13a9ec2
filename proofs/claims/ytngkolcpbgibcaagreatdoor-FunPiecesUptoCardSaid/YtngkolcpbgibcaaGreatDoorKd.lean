/- cashbooklaw11.known by its contract: it returns true. Condition: the tables are laid. -/
import Derived.Test.YtngkolcpbgibcaaGreatDoorPc0
import Derived.Test.YtngkolcpbgibcaaGreatDoorSc
import Derived.Test.YtngkolcpbgibcaaGreatDoorDr
set_option linter.unusedVariables false
set_option linter.unusedSimpArgs false
namespace Go.Proofs.YtngkolcpbgibcaaGreatDoor
open Go.RowKit
theorem argv_area {W : World} {q : Nat} (h : Bk W q 32 (kArea.flatMap vc).toArray) : ArgV W (.agg (ac true (some ⟨q, 0, none⟩) 4 4).toArray) (true, kArea) := ⟨_, 4, rfl, Nat.le_refl _, row_vals h⟩
theorem kf_mid {w : World} (HF : FnT w) : Calls Tryz.prog 24 #[.string ⟨#[77, 73, 68]⟩] w fun e W => e = .returned (.tuple #[.int .i64 17, .bool true]) ∧ W = w := by
  have := fFind_any HF [77, 73, 68]
  rwa [show findX [77, 73, 68] = some 17 from by kernel_rfl] at this
theorem kf_sum {w : World} (HF : FnT w) : Calls Tryz.prog 24 #[.string ⟨#[115, 117, 109]⟩] w fun e W => e = .returned (.tuple #[.int .i64 0, .bool false]) ∧ W = w := by
  have := fFind_any HF [115, 117, 109]
  rwa [show findX [115, 117, 109] = none from by kernel_rfl] at this
theorem kf_17 {w : World} (HF : FnT w) : Calls Tryz.prog 23 #[.int .i64 17] w fun e W => e = .returned (.tuple #[.string ⟨#[77, 73, 68]⟩, .bool true]) ∧ W = w := by
  have := fName_any HF 17
  rwa [show nameX 17 = some [77, 73, 68] from by kernel_rfl] at this
theorem kf_30 {w : World} (HF : FnT w) : Calls Tryz.prog 23 #[.int .i64 30] w fun e W => e = .returned (.tuple #[.string ⟨#[]⟩, .bool false]) ∧ W = w := by
  have := fName_any HF 30
  rwa [show nameX 30 = none from by kernel_rfl] at this
theorem kb_5 {w : World} (HT : Tens w) (HV : Val w) : Calls Tryz.prog 18 #[.int .i64 5, .agg (vc (.num 2 0)).toArray, .agg (vc (.num (-1) 0)).toArray] w fun e W => e = .returned (.agg (vc (.num 5 1)).toArray) ∧ Below w.heap.size w W := by
  have hx : PG (.num 2 0) := pg_num (gd_small (by decide) (by decide)); have hy : PG (.num (-1) 0) := pg_num (gd_small (by decide) (by decide)); have := fBinary_any HT HV (op := 5) hx.1.1 hy.1.1 (by first | trivial | (show _ ≤ _; decide)) (by first | trivial | (show _ ≤ _; decide)) hx.2 hy.2
  rwa [show funBin 5 (.num 2 0) (.num (-1) 0) = (.num 5 1) from by kernel_rfl] at this
theorem kb_6 {w : World} (HT : Tens w) (HV : Val w) : Calls Tryz.prog 18 #[.int .i64 6, .agg (vc (.num 1 0)).toArray, .agg (vc (.str [120])).toArray] w fun e W => e = .returned (.agg (vc (.str [49, 120])).toArray) ∧ Below w.heap.size w W := by
  have hx : PG (.num 1 0) := pg_num (gd_small (by decide) (by decide)); have hy : PG (.str [120]) := pg_x; have := fBinary_any HT HV (op := 6) hx.1.1 hy.1.1 (by first | trivial | (show _ ≤ _; decide)) (by first | trivial | (show _ ≤ _; decide)) hx.2 hy.2
  rwa [show funBin 6 (.num 1 0) (.str [120]) = (.str [49, 120]) from by kernel_rfl] at this
theorem kb_9 {w : World} (HT : Tens w) (HV : Val w) : Calls Tryz.prog 18 #[.int .i64 9, .agg (vc (.num 1 0)).toArray, .agg (vc (.str [120])).toArray] w fun e W => e = .returned (.agg (vc (.bool true)).toArray) ∧ Below w.heap.size w W := by
  have hx : PG (.num 1 0) := pg_num (gd_small (by decide) (by decide)); have hy : PG (.str [120]) := pg_x; have := fBinary_any HT HV (op := 9) hx.1.1 hy.1.1 (by first | trivial | (show _ ≤ _; decide)) (by first | trivial | (show _ ≤ _; decide)) hx.2 hy.2
  rwa [show funBin 9 (.num 1 0) (.str [120]) = (.bool true) from by kernel_rfl] at this
theorem kb_4 {w : World} (HT : Tens w) (HV : Val w) : Calls Tryz.prog 18 #[.int .i64 4, .agg (vc (.num 1 0)).toArray, .agg (vc .blank).toArray] w fun e W => e = .returned (.agg (vc (.err 7)).toArray) ∧ Below w.heap.size w W := by
  have hx : PG (.num 1 0) := pg_num (gd_small (by decide) (by decide)); have hy : PG .blank := pg_blank; have := fBinary_any HT HV (op := 4) hx.1.1 hy.1.1 (by first | trivial | (show _ ≤ _; decide)) (by first | trivial | (show _ ≤ _; decide)) hx.2 hy.2
  rwa [show funBin 4 (.num 1 0) .blank = (.err 7) from by kernel_rfl] at this
theorem ku_3 {w : World} : Calls Tryz.prog 20 #[.int .i64 3, .agg (vc (.num 5 0)).toArray] w fun e W => e = .returned (.agg (vc (.num 5 2)).toArray) ∧ Below w.heap.size w W := by
  have hx : PG (.num 5 0) := pg_num (gd_small (by decide) (by decide)); have := fUnary_any (w := w) (op := 3) hx.1.2 hx.2
  rwa [show usX 3 (.num 5 0) = (.num 5 2) from by kernel_rfl] at this
theorem ku_2 {w : World} : Calls Tryz.prog 20 #[.int .i64 2, .agg (vc (.str [120])).toArray] w fun e W => e = .returned (.agg (vc (.str [120])).toArray) ∧ Below w.heap.size w W := by
  have hx : PG (.str [120]) := pg_x; have := fUnary_any (w := w) (op := 2) hx.1.2 hx.2
  rwa [show usX 2 (.str [120]) = (.str [120]) from by kernel_rfl] at this
theorem ku_4 {w : World} : Calls Tryz.prog 20 #[.int .i64 4, .agg (vc (.num 5 0)).toArray] w fun e W => e = .returned (.agg (vc (.err 15)).toArray) ∧ Below w.heap.size w W := by
  have hx : PG (.num 5 0) := pg_num (gd_small (by decide) (by decide)); have := fUnary_any (w := w) (op := 4) hx.1.2 hx.2
  rwa [show usX 4 (.num 5 0) = (.err 15) from by kernel_rfl] at this
def OneG (x : VX) (u : Value) (W : World) : Prop := ∃ g, u = .agg (ac false (some ⟨g, 0, none⟩) 1 1).toArray ∧ Bk W g 32 (vc x).toArray
def RowsF (n : Nat) (args : List (Bool × List VX)) (u : Value) (W : World) : Prop := ∃ A c, u = .slice A n c ∧ RowF argF W (· < W.heap.size) A n args
def IntsF (l : List Int) (u : Value) (W : World) : Prop := ∃ q, u = .slice (some ⟨q, 0, none⟩) l.length l.length ∧ Bk W q 2 (l.map (Value.int .i64)).toArray
theorem oneg_stable {x : VX} : Stable (fun W W' => Below W.heap.size W W') (OneG x) := by
  rintro u W W' hb ⟨g, rfl, h⟩; exact ⟨g, rfl, h.below hb h.lt⟩
theorem rows_stable {n : Nat} {args : List (Bool × List VX)} : Stable (fun W W' => Below W.heap.size W W') (RowsF n args) := by
  rintro u W W' hb ⟨A, c, rfl, h⟩; exact ⟨A, c, rfl, (h.below hb (Nat.le_refl _)).mono hb.size⟩
theorem ints_stable {l : List Int} : Stable (fun W W' => Below W.heap.size W W') (IntsF l) := by
  rintro u W W' hb ⟨q, rfl, h⟩; exact ⟨q, rfl, h.below hb h.lt⟩
theorem onev {x : VX} {u : Value} {W : World} (h : OneG x u W) : ArgV W u (false, [x]) := by
  obtain ⟨g, rfl, h⟩ := h; exact argv_one h
theorem argv_eq {u v : Value} {W : World} {x : Bool × List VX} (e : u = v) (h : ArgV W v x) : ArgV W u x := by rw [e]; exact h
theorem run_bsa1 {o : Oper} {a : Act} {W : World} {p0 : Nat} {x0 : Bool × List VX} (h0 : ArgV W (a.tmps.getD p0 undef) x0) (ho : o.op = .buildSlice 34 1 #[(0, .tmp p0)]) :
    (execOp a.eval o).run Tryz.prog W = .ok (.value (.slice (some ⟨W.heap.size, 0, none⟩) 1 1)) (W.alloc (.cells (agCs (a.tmps.getD p0 undef)).toArray 55)) := by
  obtain ⟨A0, c0, e0, -, -⟩ := h0; have f0 : a.eval (.tmp p0) = .agg (ac x0.1 A0 x0.2.length c0).toArray := e0; rw [e0]; unfold execOp; rw [ho]; simp only [List.map_toArray, List.map_cons, List.map_nil, f0]; clear ho e0 f0; simp only [ac, agCs]; go_simp
theorem rows_made1 {W : World} {u0 : Value} {x0 : Bool × List VX} (h0 : ArgV W u0 x0) : RowsF 1 [x0] (.slice (some ⟨W.heap.size, 0, none⟩) 1 1) (W.alloc (.cells (agCs u0).toArray 55)) := by
  have hb := bel0 W (.cells (agCs u0).toArray 55); refine ⟨_, 1, rfl, row_args (L := [(u0, x0)]) (fun p hp => ?_) (by simpa using Bk.new W 55 (agCs u0).toArray)⟩; simp only [List.mem_cons, List.not_mem_nil, or_false] at hp
  rcases hp with rfl
  · exact h0.below hb
theorem run_bsa2 {o : Oper} {a : Act} {W : World} {p0 p1 : Nat} {x0 x1 : Bool × List VX} (h0 : ArgV W (a.tmps.getD p0 undef) x0) (h1 : ArgV W (a.tmps.getD p1 undef) x1) (ho : o.op = .buildSlice 34 2 #[(0, .tmp p0), (1, .tmp p1)]) :
    (execOp a.eval o).run Tryz.prog W = .ok (.value (.slice (some ⟨W.heap.size, 0, none⟩) 2 2)) (W.alloc (.cells (agCs (a.tmps.getD p0 undef) ++ agCs (a.tmps.getD p1 undef)).toArray 55)) := by
  obtain ⟨A0, c0, e0, -, -⟩ := h0; have f0 : a.eval (.tmp p0) = .agg (ac x0.1 A0 x0.2.length c0).toArray := e0; obtain ⟨A1, c1, e1, -, -⟩ := h1; have f1 : a.eval (.tmp p1) = .agg (ac x1.1 A1 x1.2.length c1).toArray := e1; rw [e0, e1]; unfold execOp; rw [ho]; simp only [List.map_toArray, List.map_cons, List.map_nil, f0, f1]; clear ho e0 f0 e1 f1; simp only [ac, agCs]; go_simp
theorem rows_made2 {W : World} {u0 u1 : Value} {x0 x1 : Bool × List VX} (h0 : ArgV W u0 x0) (h1 : ArgV W u1 x1) : RowsF 2 [x0, x1] (.slice (some ⟨W.heap.size, 0, none⟩) 2 2) (W.alloc (.cells (agCs u0 ++ agCs u1).toArray 55)) := by
  have hb := bel0 W (.cells (agCs u0 ++ agCs u1).toArray 55); refine ⟨_, 2, rfl, row_args (L := [(u0, x0), (u1, x1)]) (fun p hp => ?_) (by simpa using Bk.new W 55 (agCs u0 ++ agCs u1).toArray)⟩; simp only [List.mem_cons, List.not_mem_nil, or_false] at hp
  rcases hp with rfl | rfl
  · exact h0.below hb
  · exact h1.below hb
theorem run_bsa3 {o : Oper} {a : Act} {W : World} {p0 p1 p2 : Nat} {x0 x1 x2 : Bool × List VX} (h0 : ArgV W (a.tmps.getD p0 undef) x0) (h1 : ArgV W (a.tmps.getD p1 undef) x1) (h2 : ArgV W (a.tmps.getD p2 undef) x2) (ho : o.op = .buildSlice 34 3 #[(0, .tmp p0), (1, .tmp p1), (2, .tmp p2)]) :
    (execOp a.eval o).run Tryz.prog W = .ok (.value (.slice (some ⟨W.heap.size, 0, none⟩) 3 3)) (W.alloc (.cells (agCs (a.tmps.getD p0 undef) ++ agCs (a.tmps.getD p1 undef) ++ agCs (a.tmps.getD p2 undef)).toArray 55)) := by
  obtain ⟨A0, c0, e0, -, -⟩ := h0; have f0 : a.eval (.tmp p0) = .agg (ac x0.1 A0 x0.2.length c0).toArray := e0; obtain ⟨A1, c1, e1, -, -⟩ := h1; have f1 : a.eval (.tmp p1) = .agg (ac x1.1 A1 x1.2.length c1).toArray := e1; obtain ⟨A2, c2, e2, -, -⟩ := h2; have f2 : a.eval (.tmp p2) = .agg (ac x2.1 A2 x2.2.length c2).toArray := e2; rw [e0, e1, e2]; unfold execOp; rw [ho]; simp only [List.map_toArray, List.map_cons, List.map_nil, f0, f1, f2]; clear ho e0 f0 e1 f1 e2 f2; simp only [ac, agCs]; go_simp
theorem rows_made3 {W : World} {u0 u1 u2 : Value} {x0 x1 x2 : Bool × List VX} (h0 : ArgV W u0 x0) (h1 : ArgV W u1 x1) (h2 : ArgV W u2 x2) : RowsF 3 [x0, x1, x2] (.slice (some ⟨W.heap.size, 0, none⟩) 3 3) (W.alloc (.cells (agCs u0 ++ agCs u1 ++ agCs u2).toArray 55)) := by
  have hb := bel0 W (.cells (agCs u0 ++ agCs u1 ++ agCs u2).toArray 55); refine ⟨_, 3, rfl, row_args (L := [(u0, x0), (u1, x1), (u2, x2)]) (fun p hp => ?_) (by simpa using Bk.new W 55 (agCs u0 ++ agCs u1 ++ agCs u2).toArray)⟩; simp only [List.mem_cons, List.not_mem_nil, or_false] at hp
  rcases hp with rfl | rfl | rfl
  · exact h0.below hb
  · exact h1.below hb
  · exact h2.below hb
theorem run_eq32 {o : Oper} {a : Act} {W : World} {x y : Operand} {v : VX} (ho : o.op = .binOp .eql 32 x y 32) (hx : a.eval x = .agg (vc v).toArray) (hy : a.eval y = .agg (vc v).toArray) : (execOp a.eval o).run Tryz.prog W = .ok (.value (.bool true)) W := by
  unfold execOp; rw [ho]; simp only [hx, hy]; clear ho hx hy
  cases v <;> (simp only [vc]; go_simp)
theorem run_eq9 {o : Oper} {a : Act} {W : World} {x y : Operand} {v : ByteArray} (ho : o.op = .binOp .eql 9 x y 9) (hx : a.eval x = .string v) (hy : a.eval y = .string v) : (execOp a.eval o).run Tryz.prog W = .ok (.value (.bool true)) W := by
  unfold execOp; rw [ho]; simp only [hx, hy]; clear ho hx hy; go_simp
theorem run_bn {o : Oper} {a : Act} {W : World} {p : Nat} {m : Int} {s : Nat} (ho : o.op = .build 32 #[(0, .const (.int .i64 1)), (1, .tmp p)]) (hp : a.tmps.getD p undef = .agg (dc m (s : Nat)).toArray) : (execOp a.eval o).run Tryz.prog W = .ok (.value (.agg (vc (.num m s)).toArray)) W := by
  have f : a.eval (.tmp p) = .agg (dc m (s : Nat)).toArray := hp; unfold execOp; rw [ho]; simp only [List.map_toArray, List.map_cons, List.map_nil, f]; clear ho f hp; simp only [dc, vc]; go_simp
set_option maxRecDepth 100000 in
set_option maxHeartbeats 16000000 in
theorem known_any {w : World} (HFn : FnT w) (HTn : Tens w) (HVl : Val w) : Calls Tryz.prog 11 #[] w fun e W => e = .returned (.bool true) ∧ Below w.heap.size w W := by
  have HF := Lib.hid HFn; have HT := Lib.hid HTn; have HV := Lib.hid HVl; have HB := Lib.hid (BX.start w); clear HFn HTn HVl; go_enter Tryz.func11, Tryz.ntmps11
  repeat' (first | go_values | go_skip | go_guarded | go_step | go_upon)
  refine (lN_x 1).mono ?_; rintro e W1 ⟨rfl, hb⟩; have HB := Lib.hid (HB.out.call hb); clear hb; dsimp only
  repeat' (first | go_values | go_skip | go_guarded | go_step | go_upon)
  refine (lS_x [53]).mono ?_; rintro e W1 ⟨rfl, hb⟩; have HB := Lib.hid (HB.out.call hb); clear hb; dsimp only
  repeat' (first | go_values | go_skip | go_guarded | go_step | go_upon)
  refine (lN_x 2).mono ?_; rintro e W1 ⟨rfl, hb⟩; have HB := Lib.hid (HB.out.call hb); clear hb; dsimp only
  repeat' (first | ((with_reducible show Oper.wp _ _ _ _ _ _); apply stop_bd; exact rfl) | go_values | go_skip | go_guarded | go_step | go_upon)
  refine Lib.hid ?_; refine wp_b (v := .agg (vc .blank).toArray) (by kernel_rfl) ?_; go_simp
  repeat' (first | ((with_reducible show Oper.wp _ _ _ _ _ _); apply stop_bs; exact rfl) | go_values | go_skip | go_guarded | go_step | go_upon)
  refine Lib.hid ?_; refine bs_g (n := 4) (e := 32) HB (kArea.flatMap vc) (by kernel_rfl) ?_; clear HB; intro q1 W _ HB; go_simp
  repeat' (first | ((with_reducible show Oper.wp _ _ _ _ _ _); apply stop_bd; exact rfl) | go_values | go_skip | go_guarded | go_step | go_upon)
  refine Lib.hid ?_; refine wp_b (v := .agg (ac true (some ⟨q1, 0, none⟩) 4 4).toArray) (by kernel_rfl) ?_; go_simp
  repeat' (first | ((with_reducible show Oper.wp _ _ _ _ _ _); (first | (refine al_a HB rfl ?_; clear HB; intro g0 W HB; go_simp) | (refine st_a 0 HB rfl _ _ rfl rfl rfl ?_; clear HB; intro W HB; dsimp only [List.set] at HB; go_simp))) | go_values | go_skip | go_guarded | go_step | go_upon)
  refine (kf_mid (HF.out.below HB.out.bel)).mono ?_; rintro e W1 ⟨rfl, hw⟩; have hw := hw.symm; subst hw; dsimp only
  repeat' (first | go_values | go_skip | go_guarded | go_step | go_upon)
  refine (kf_17 (HF.out.below HB.out.bel)).mono ?_; rintro e W1 ⟨rfl, hw⟩; have hw := hw.symm; subst hw; dsimp only
  repeat' (first | go_values | go_skip | go_guarded | go_step | go_upon)
  refine (kf_30 (HF.out.below HB.out.bel)).mono ?_; rintro e W1 ⟨rfl, hw⟩; have hw := hw.symm; subst hw; dsimp only
  repeat' (first | go_values | go_skip | go_guarded | go_step | go_upon)
  refine (kf_sum (HF.out.below HB.out.bel)).mono ?_; rintro e W1 ⟨rfl, hw⟩; have hw := hw.symm; subst hw; dsimp only
  repeat' (first | go_values | go_skip | go_guarded | go_step | go_upon)
  generalize hgA : g0 = gA at *; clear hgA; simp only [List.append]
  refine wp_region_phases (S := (fun _ W => BX w [(gA, 55, ac true (some ⟨q1, 0, none⟩) 4 4), (q1, 32, kArea.flatMap vc)] W)) (E := (fun W W' => Below W.heap.size W W')) [] [(1, Is (.pointer (some ⟨gA, 0, none⟩))), (2, Is (.int .i64 17)), (3, Is (.bool true)), (4, Is (.string ⟨#[77, 73, 68]⟩)), (5, Is (.bool true)), (7, Is (.bool false)), (9, Is (.bool false))] [(32, Is (.bool true)), (33, Is (.bool true)), (34, Is (.int .i64 17)), (35, Is (.bool true)), (36, Is (.bool true)), (37, Is (.bool true)), (38, Is (.bool true)), (39, Is (.bool true)), (40, Is (.bool true)), (41, Is (.string ⟨#[77, 73, 68]⟩)), (42, Is (.bool true)), (43, Is (.bool true)), (44, Is (.bool true)), (45, Is (.bool false)), (46, Is (.bool true)), (47, Is (.bool true)), (48, Is (.bool true)), (49, Is (.bool false)), (50, Is (.bool true)), (51, Is (.bool true)), (52, Is (.bool true)), (53, Is (.agg (ac true (some ⟨q1, 0, none⟩) 4 4).toArray)), (54, Is (.agg (vc (.str [52])).toArray)), (55, OneG (.str [52])), (56, RowsF 2 [(true, kArea), (false, [(.str [52])])]), (57, Is (.agg (vc (.num 7 0)).toArray)), (58, Is (.agg (vc (.num 7 0)).toArray)), (59, Is (.bool true)), (60, Is (.bool true)), (61, Is (.bool true)), (62, Is (.agg (ac true (some ⟨q1, 0, none⟩) 4 4).toArray)), (63, Is (.agg (vc .blank).toArray)), (64, OneG .blank), (65, RowsF 2 [(true, kArea), (false, [.blank])]), (66, Is (.agg (vc (.num 3 0)).toArray)), (67, Is (.agg (vc (.num 3 0)).toArray)), (68, Is (.bool true)), (69, Is (.bool true)), (70, Is (.bool true)), (71, Is (.agg (vc (.err 7)).toArray)), (72, Is (.agg (vc (.err 7)).toArray)), (73, Is (.bool true)), (74, Is (.bool true)), (75, Is (.bool true)), (76, IntsF [(-7), 3]), (77, RowsF 2 ([(-7), 3].map fun z => (false, [VX.num z 0]))), (78, Is (.agg (vc (.num 2 0)).toArray)), (79, Is (.agg (vc (.num 2 0)).toArray)), (80, Is (.bool true)), (81, Is (.bool true)), (82, Is (.bool true)), (83, Is (.agg (vc (.str [97, 195, 169, 98])).toArray)), (84, OneG (.str [97, 195, 169, 98])), (85, Is (.agg (vc (.num 2 0)).toArray)), (86, OneG (.num 2 0)), (87, Is (.agg (vc (.num 5 0)).toArray)), (88, OneG (.num 5 0)), (89, RowsF 3 [(false, [(.str [97, 195, 169, 98])]), (false, [(.num 2 0)]), (false, [(.num 5 0)])]), (90, Is (.agg (vc (.str [195, 169, 98])).toArray)), (91, Is (.agg (vc (.str [195, 169, 98])).toArray)), (92, Is (.bool true)), (93, Is (.bool true)), (94, Is (.bool true)), (95, IntsF [0, 5]), (96, RowsF 2 ([0, 5].map fun z => (false, [VX.num z 0]))), (97, Is (.agg (vc (.bool false)).toArray)), (98, Is (.agg (vc (.bool false)).toArray)), (99, Is (.bool true)), (100, Is (.bool true)), (101, Is (.bool true)), (102, Is (.agg (ac true (some ⟨q1, 0, none⟩) 4 4).toArray)), (103, Is (.agg (vc (.num 3 0)).toArray)), (104, OneG (.num 3 0)), (105, RowsF 2 [(true, kArea), (false, [(.num 3 0)])]), (106, Is (.agg (vc (.num 2 0)).toArray)), (107, Is (.agg (vc (.num 2 0)).toArray)), (108, Is (.bool true)), (109, Is (.bool true)), (110, Is (.bool true)), (111, Is (.agg (ac true (some ⟨q1, 0, none⟩) 4 4).toArray)), (112, Is (.agg (vc (.num 5 0)).toArray)), (113, OneG (.num 5 0)), (114, RowsF 2 [(true, kArea), (false, [(.num 5 0)])]), (115, Is (.agg (vc (.err 23)).toArray)), (116, Is (.agg (vc (.err 23)).toArray)), (117, Is (.bool true)), (118, Is (.bool true)), (119, Is (.bool true)), (120, Is (.agg (ac true (some ⟨q1, 0, none⟩) 4 4).toArray)), (121, RowsF 1 [(true, kArea)]), (122, Is (.agg (vc (.err 15)).toArray)), (123, Is (.agg (vc (.err 15)).toArray)), (124, Is (.bool true)), (125, Is (.bool true)), (126, Is (.bool true)), (127, Is (.agg (vc (.err 42)).toArray)), (128, Is (.agg (vc (.err 42)).toArray)), (129, Is (.bool true)), (130, Is (.bool true)), (131, Is (.bool true)), (132, Is (.agg (vc (.num 2 0)).toArray)), (133, Is (.agg (vc (.num (-1) 0)).toArray)), (134, Is (.agg (vc (.num 5 1)).toArray)), (135, Is (.agg (dc 5 (1 : Nat)).toArray)), (136, Is (.agg (vc (.num 5 1)).toArray)), (137, Is (.bool true)), (138, Is (.bool true)), (139, Is (.bool true)), (140, Is (.agg (vc (.num 1 0)).toArray)), (141, Is (.agg (vc (.str [120])).toArray)), (142, Is (.agg (vc (.str [49, 120])).toArray)), (143, Is (.agg (vc (.str [49, 120])).toArray)), (144, Is (.bool true)), (145, Is (.bool true)), (146, Is (.bool true)), (147, Is (.agg (vc (.num 1 0)).toArray)), (148, Is (.agg (vc (.str [120])).toArray)), (149, Is (.agg (vc (.bool true)).toArray)), (150, Is (.agg (vc (.bool true)).toArray)), (151, Is (.bool true)), (152, Is (.bool true)), (153, Is (.bool true)), (154, Is (.agg (vc (.num 1 0)).toArray)), (155, Is (.agg (vc .blank).toArray)), (156, Is (.agg (vc (.err 7)).toArray)), (157, Is (.agg (vc (.err 7)).toArray)), (158, Is (.bool true)), (159, Is (.bool true)), (160, Is (.bool true)), (161, Is (.agg (vc (.num 5 0)).toArray)), (162, Is (.agg (vc (.num 5 2)).toArray)), (163, Is (.agg (dc 5 (2 : Nat)).toArray)), (164, Is (.agg (vc (.num 5 2)).toArray)), (165, Is (.bool true)), (166, Is (.bool true)), (167, Is (.bool true)), (168, Is (.agg (vc (.str [120])).toArray)), (169, Is (.agg (vc (.str [120])).toArray)), (170, Is (.agg (vc (.str [120])).toArray)), (171, Is (.bool true)), (172, Is (.bool true)), (173, Is (.bool true)), (174, Is (.agg (vc (.num 5 0)).toArray)), (175, Is (.agg (vc (.err 15)).toArray)), (176, Is (.agg (vc (.err 15)).toArray)), (177, Is (.bool true)), (178, Is (.bool true)), (0, Is (.bool true))]
    [.op [3] none, .op [32] none, .op [2, 33] (some (33, true)), .op [34, 33] (some (33, true)), .op [33, 35] none, .op [36] none, .op [5, 37] (some (37, true)), .op [37, 38] none, .op [39] none, .op [4, 40] (some (40, true)), .op [41, 40] (some (40, true)), .op [40, 42] none, .op [43] none, .op [7, 44] (some (44, true)), .op [45, 44] (some (44, true)), .op [44, 46] none, .op [47] none, .op [9, 48] (some (48, true)), .op [49, 48] (some (48, true)), .op [48, 50] none, .op [51] none, .op [1, 52] (some (52, true)), .op [52] (some (52, true)), .op [54, 52] (some (52, true)), .op [53, 55, 52] (some (52, true)), .op [56, 52] (some (52, true)), .op [52] (some (52, true)), .op [57, 58, 52] (some (52, true)), .op [52, 59] none, .op [60] none, .op [1, 61] (some (61, true)), .op [61] (some (61, true)), .op [63, 61] (some (61, true)), .op [62, 64, 61] (some (61, true)), .op [65, 61] (some (61, true)), .op [61] (some (61, true)), .op [66, 67, 61] (some (61, true)), .op [61, 68] none, .op [69] none, .op [70] (some (70, true)), .op [70] (some (70, true)), .op [71, 72, 70] (some (70, true)), .op [70, 73] none, .op [74] none, .op [75] (some (75, true)), .op [76, 75] (some (75, true)), .op [77, 75] (some (75, true)), .op [75] (some (75, true)), .op [78, 79, 75] (some (75, true)), .op [75, 80] none, .op [81] none, .op [82] (some (82, true)), .op [83, 82] (some (82, true)), .op [82] (some (82, true)), .op [85, 82] (some (82, true)), .op [82] (some (82, true)), .op [87, 82] (some (82, true)), .op [84, 86, 88, 82] (some (82, true)), .op [89, 82] (some (82, true)), .op [82] (some (82, true)), .op [90, 91, 82] (some (82, true)), .op [82, 92] none, .op [93] none, .op [94] (some (94, true)), .op [95, 94] (some (94, true)), .op [96, 94] (some (94, true)), .op [94] (some (94, true)), .op [97, 98, 94] (some (94, true)), .op [94, 99] none, .op [100] none, .op [1, 101] (some (101, true)), .op [101] (some (101, true)), .op [103, 101] (some (101, true)), .op [102, 104, 101] (some (101, true)), .op [105, 101] (some (101, true)), .op [101] (some (101, true)), .op [106, 107, 101] (some (101, true)), .op [101, 108] none, .op [109] none, .op [1, 110] (some (110, true)), .op [110] (some (110, true)), .op [112, 110] (some (110, true)), .op [111, 113, 110] (some (110, true)), .op [114, 110] (some (110, true)), .op [110] (some (110, true)), .op [115, 116, 110] (some (110, true)), .op [110, 117] none, .op [118] none, .op [1, 119] (some (119, true)), .op [120, 119] (some (119, true)), .op [121, 119] (some (119, true)), .op [119] (some (119, true)), .op [122, 123, 119] (some (119, true)), .op [119, 124] none, .op [125] none, .op [126] (some (126, true)), .op [126] (some (126, true)), .op [127, 128, 126] (some (126, true)), .op [126, 129] none, .op [130] none, .op [131] (some (131, true)), .op [131] (some (131, true)), .op [132, 133, 131] (some (131, true)), .op [131] (some (131, true)), .op [135, 131] (some (131, true)), .op [134, 136, 131] (some (131, true)), .op [131, 137] none, .op [138] none, .op [139] (some (139, true)), .op [139] (some (139, true)), .op [140, 141, 139] (some (139, true)), .op [139] (some (139, true)), .op [142, 143, 139] (some (139, true)), .op [139, 144] none, .op [145] none, .op [146] (some (146, true)), .op [146] (some (146, true)), .op [147, 148, 146] (some (146, true)), .op [146] (some (146, true)), .op [149, 150, 146] (some (146, true)), .op [146, 151] none, .op [152] none, .op [153] (some (153, true)), .op [153] (some (153, true)), .op [154, 155, 153] (some (153, true)), .op [153] (some (153, true)), .op [156, 157, 153] (some (153, true)), .op [153, 158] none, .op [159] none, .op [160] (some (160, true)), .op [161, 160] (some (160, true)), .op [160] (some (160, true)), .op [163, 160] (some (160, true)), .op [162, 164, 160] (some (160, true)), .op [160, 165] none, .op [166] none, .op [167] (some (167, true)), .op [168, 167] (some (167, true)), .op [167] (some (167, true)), .op [169, 170, 167] (some (167, true)), .op [167, 171] none, .op [172] none, .op [173] (some (173, true)), .op [174, 173] (some (173, true)), .op [173] (some (173, true)), .op [175, 176, 173] (some (173, true)), .op [173, 177] none, .op [178] none] (by as_aux_lemma => kernel_rfl) ?_ ?_ ?_ ?_ ?_ ⟨stable_is _ _, stable_is _ _, stable_is _ _, stable_is _ _, stable_is _ _, stable_is _ _, stable_is _ _, stable_is _ _, stable_is _ _, stable_is _ _, stable_is _ _, stable_is _ _, stable_is _ _, stable_is _ _, stable_is _ _, stable_is _ _, stable_is _ _, stable_is _ _, stable_is _ _, stable_is _ _, stable_is _ _, stable_is _ _, stable_is _ _, stable_is _ _, stable_is _ _, stable_is _ _, stable_is _ _, stable_is _ _, stable_is _ _, stable_is _ _, oneg_stable, rows_stable, stable_is _ _, stable_is _ _, stable_is _ _, stable_is _ _, stable_is _ _, stable_is _ _, stable_is _ _, oneg_stable, rows_stable, stable_is _ _, stable_is _ _, stable_is _ _, stable_is _ _, stable_is _ _, stable_is _ _, stable_is _ _, stable_is _ _, stable_is _ _, stable_is _ _, ints_stable, rows_stable, stable_is _ _, stable_is _ _, stable_is _ _, stable_is _ _, stable_is _ _, stable_is _ _, oneg_stable, stable_is _ _, oneg_stable, stable_is _ _, oneg_stable, rows_stable, stable_is _ _, stable_is _ _, stable_is _ _, stable_is _ _, stable_is _ _, ints_stable, rows_stable, stable_is _ _, stable_is _ _, stable_is _ _, stable_is _ _, stable_is _ _, stable_is _ _, stable_is _ _, oneg_stable, rows_stable, stable_is _ _, stable_is _ _, stable_is _ _, stable_is _ _, stable_is _ _, stable_is _ _, stable_is _ _, oneg_stable, rows_stable, stable_is _ _, stable_is _ _, stable_is _ _, stable_is _ _, stable_is _ _, stable_is _ _, rows_stable, stable_is _ _, stable_is _ _, stable_is _ _, stable_is _ _, stable_is _ _, stable_is _ _, stable_is _ _, stable_is _ _, stable_is _ _, stable_is _ _, stable_is _ _, stable_is _ _, stable_is _ _, stable_is _ _, stable_is _ _, stable_is _ _, stable_is _ _, stable_is _ _, stable_is _ _, stable_is _ _, stable_is _ _, stable_is _ _, stable_is _ _, stable_is _ _, stable_is _ _, stable_is _ _, stable_is _ _, stable_is _ _, stable_is _ _, stable_is _ _, stable_is _ _, stable_is _ _, stable_is _ _, stable_is _ _, stable_is _ _, stable_is _ _, stable_is _ _, stable_is _ _, stable_is _ _, stable_is _ _, stable_is _ _, stable_is _ _, stable_is _ _, stable_is _ _, stable_is _ _, stable_is _ _, stable_is _ _, stable_is _ _, stable_is _ _, stable_is _ _, stable_is _ _, stable_is _ _, stable_is _ _, stable_is _ _, stable_is _ _, stable_is _ _, stable_is _ _, stable_is _ _, trivial⟩ ?_ HB.out.drew ?_ ?_
  · as_aux_lemma => kernel_rfl
  · as_aux_lemma => kernel_rfl
  · as_aux_lemma => kernel_rfl
  · as_aux_lemma => kernel_rfl
  · as_aux_lemma => kernel_rfl
  · exact ⟨rfl, rfl, rfl, rfl, rfl, rfl, rfl, trivial⟩
  · refine ⟨?_, ?_, ?_, ?_, ?_, ?_, ?_, ?_, ?_, ?_, ?_, ?_, ?_, ?_, ?_, ?_, ?_, ?_, ?_, ?_, ?_, ?_, ?_, ?_, ?_, ?_, ?_, ?_, ?_, ?_, ?_, ?_, ?_, ?_, ?_, ?_, ?_, ?_, ?_, ?_, ?_, ?_, ?_, ?_, ?_, ?_, ?_, ?_, ?_, ?_, ?_, ?_, ?_, ?_, ?_, ?_, ?_, ?_, ?_, ?_, ?_, ?_, ?_, ?_, ?_, ?_, ?_, ?_, ?_, ?_, ?_, ?_, ?_, ?_, ?_, ?_, ?_, ?_, ?_, ?_, ?_, ?_, ?_, ?_, ?_, ?_, ?_, ?_, ?_, ?_, ?_, ?_, ?_, ?_, ?_, ?_, ?_, ?_, ?_, ?_, ?_, ?_, ?_, ?_, ?_, ?_, ?_, ?_, ?_, ?_, ?_, ?_, ?_, ?_, ?_, ?_, ?_, ?_, ?_, ?_, ?_, ?_, ?_, ?_, ?_, ?_, ?_, ?_, ?_, ?_, ?_, ?_, ?_, ?_, ?_, ?_, ?_, ?_, ?_, ?_, ?_, ?_, ?_, ?_, ?_, ?_, ?_, ?_, trivial⟩
    · as_aux_lemma =>
        intro vals a W hS hL; have e3 : a.tmps.getD 3 undef = .bool true := hL.1; clear hL; go_simp; exact ⟨⟨fun d hd => by injection hd with hd; subst hd; rfl, fun h => by cases h⟩, hS, (Below.refl _ _)⟩
    · as_aux_lemma =>
        intro vals a W hS hL; have e32 : a.tmps.getD 32 undef = .bool true := hL.1; clear hL; go_simp; exact ⟨⟨fun d hd => by injection hd with hd; subst hd; rfl, fun h => by cases h⟩, hS, (Below.refl _ _)⟩
    · as_aux_lemma =>
        intro vals a W hS hL; have e2 : a.tmps.getD 2 undef = .int .i64 17 := hL.1; have e33 : a.tmps.getD 33 undef = .bool true := hL.2.1; clear hL; refine ⟨true, e33, ?_⟩; rw [if_pos rfl]; go_simp; exact ⟨⟨fun d hd => by injection hd with hd; subst hd; rfl, fun h => by cases h⟩, hS, (Below.refl _ _)⟩
    · as_aux_lemma =>
        intro vals a W hS hL; have e34 : a.tmps.getD 34 undef = .int .i64 17 := hL.1; have e33 : a.tmps.getD 33 undef = .bool true := hL.2.1; clear hL; refine ⟨true, e33, ?_⟩; rw [if_pos rfl]; go_simp; exact ⟨⟨fun d hd => by injection hd with hd; subst hd; rfl, fun h => by cases h⟩, hS, (Below.refl _ _)⟩
    · as_aux_lemma =>
        intro vals a W hS hL; have e33 : a.tmps.getD 33 undef = .bool true := hL.1; have e35 : a.tmps.getD 35 undef = .bool true := hL.2.1; clear hL; go_simp; exact ⟨⟨fun d hd => by injection hd with hd; subst hd; rfl, fun h => by cases h⟩, hS, (Below.refl _ _)⟩
    · as_aux_lemma =>
        intro vals a W hS hL; have e36 : a.tmps.getD 36 undef = .bool true := hL.1; clear hL; go_simp; exact ⟨⟨fun d hd => by injection hd with hd; subst hd; rfl, fun h => by cases h⟩, hS, (Below.refl _ _)⟩
    · as_aux_lemma =>
        intro vals a W hS hL; have e5 : a.tmps.getD 5 undef = .bool true := hL.1; have e37 : a.tmps.getD 37 undef = .bool true := hL.2.1; clear hL; refine ⟨true, e37, ?_⟩; rw [if_pos rfl]; go_simp; exact ⟨⟨fun d hd => by injection hd with hd; subst hd; rfl, fun h => by cases h⟩, hS, (Below.refl _ _)⟩
    · as_aux_lemma =>
        intro vals a W hS hL; have e37 : a.tmps.getD 37 undef = .bool true := hL.1; have e38 : a.tmps.getD 38 undef = .bool true := hL.2.1; clear hL; go_simp; exact ⟨⟨fun d hd => by injection hd with hd; subst hd; rfl, fun h => by cases h⟩, hS, (Below.refl _ _)⟩
    · as_aux_lemma =>
        intro vals a W hS hL; have e39 : a.tmps.getD 39 undef = .bool true := hL.1; clear hL; go_simp; exact ⟨⟨fun d hd => by injection hd with hd; subst hd; rfl, fun h => by cases h⟩, hS, (Below.refl _ _)⟩
    · as_aux_lemma =>
        intro vals a W hS hL; have e4 : a.tmps.getD 4 undef = .string ⟨#[77, 73, 68]⟩ := hL.1; have e40 : a.tmps.getD 40 undef = .bool true := hL.2.1; clear hL; refine ⟨true, e40, ?_⟩; rw [if_pos rfl]; go_simp; exact ⟨⟨fun d hd => by injection hd with hd; subst hd; rfl, fun h => by cases h⟩, hS, (Below.refl _ _)⟩
    · as_aux_lemma =>
        intro vals a W hS hL; have e41 : a.tmps.getD 41 undef = .string ⟨#[77, 73, 68]⟩ := hL.1; have e40 : a.tmps.getD 40 undef = .bool true := hL.2.1; clear hL; refine ⟨true, e40, ?_⟩; rw [if_pos rfl]; refine lands_v (run_eq9 (v := ⟨#[77, 73, 68]⟩) rfl e41 rfl) ?_; exact ⟨⟨fun d hd => by injection hd with hd; subst hd; rfl, fun h => by cases h⟩, hS, Below.refl _ _⟩
    · as_aux_lemma =>
        intro vals a W hS hL; have e40 : a.tmps.getD 40 undef = .bool true := hL.1; have e42 : a.tmps.getD 42 undef = .bool true := hL.2.1; clear hL; go_simp; exact ⟨⟨fun d hd => by injection hd with hd; subst hd; rfl, fun h => by cases h⟩, hS, (Below.refl _ _)⟩
    · as_aux_lemma =>
        intro vals a W hS hL; have e43 : a.tmps.getD 43 undef = .bool true := hL.1; clear hL; go_simp; exact ⟨⟨fun d hd => by injection hd with hd; subst hd; rfl, fun h => by cases h⟩, hS, (Below.refl _ _)⟩
    · as_aux_lemma =>
        intro vals a W hS hL; have e7 : a.tmps.getD 7 undef = .bool false := hL.1; have e44 : a.tmps.getD 44 undef = .bool true := hL.2.1; clear hL; refine ⟨true, e44, ?_⟩; rw [if_pos rfl]; go_simp; exact ⟨⟨fun d hd => by injection hd with hd; subst hd; rfl, fun h => by cases h⟩, hS, (Below.refl _ _)⟩
    · as_aux_lemma =>
        intro vals a W hS hL; have e45 : a.tmps.getD 45 undef = .bool false := hL.1; have e44 : a.tmps.getD 44 undef = .bool true := hL.2.1; clear hL; refine ⟨true, e44, ?_⟩; rw [if_pos rfl]; go_simp; exact ⟨⟨fun d hd => by injection hd with hd; subst hd; rfl, fun h => by cases h⟩, hS, (Below.refl _ _)⟩
    · as_aux_lemma =>
        intro vals a W hS hL; have e44 : a.tmps.getD 44 undef = .bool true := hL.1; have e46 : a.tmps.getD 46 undef = .bool true := hL.2.1; clear hL; go_simp; exact ⟨⟨fun d hd => by injection hd with hd; subst hd; rfl, fun h => by cases h⟩, hS, (Below.refl _ _)⟩
    · as_aux_lemma =>
        intro vals a W hS hL; have e47 : a.tmps.getD 47 undef = .bool true := hL.1; clear hL; go_simp; exact ⟨⟨fun d hd => by injection hd with hd; subst hd; rfl, fun h => by cases h⟩, hS, (Below.refl _ _)⟩
    · as_aux_lemma =>
        intro vals a W hS hL; have e9 : a.tmps.getD 9 undef = .bool false := hL.1; have e48 : a.tmps.getD 48 undef = .bool true := hL.2.1; clear hL; refine ⟨true, e48, ?_⟩; rw [if_pos rfl]; go_simp; exact ⟨⟨fun d hd => by injection hd with hd; subst hd; rfl, fun h => by cases h⟩, hS, (Below.refl _ _)⟩
    · as_aux_lemma =>
        intro vals a W hS hL; have e49 : a.tmps.getD 49 undef = .bool false := hL.1; have e48 : a.tmps.getD 48 undef = .bool true := hL.2.1; clear hL; refine ⟨true, e48, ?_⟩; rw [if_pos rfl]; go_simp; exact ⟨⟨fun d hd => by injection hd with hd; subst hd; rfl, fun h => by cases h⟩, hS, (Below.refl _ _)⟩
    · as_aux_lemma =>
        intro vals a W hS hL; have e48 : a.tmps.getD 48 undef = .bool true := hL.1; have e50 : a.tmps.getD 50 undef = .bool true := hL.2.1; clear hL; go_simp; exact ⟨⟨fun d hd => by injection hd with hd; subst hd; rfl, fun h => by cases h⟩, hS, (Below.refl _ _)⟩
    · as_aux_lemma =>
        intro vals a W hS hL; have e51 : a.tmps.getD 51 undef = .bool true := hL.1; clear hL; go_simp; exact ⟨⟨fun d hd => by injection hd with hd; subst hd; rfl, fun h => by cases h⟩, hS, (Below.refl _ _)⟩
    · as_aux_lemma =>
        intro vals a W hS hL; have e1 : a.tmps.getD 1 undef = .pointer (some ⟨gA, 0, none⟩) := hL.1; have e52 : a.tmps.getD 52 undef = .bool true := hL.2.1; clear hL; refine ⟨true, e52, ?_⟩; rw [if_pos rfl]; refine lands_v (run_ldg (show RowT 55 (ac true (some ⟨q1, 0, none⟩) 4 4).length from rtArg) (hS.get (i := 0) rfl) (.tmp 1) rfl e1) ?_; exact ⟨⟨fun d hd => by injection hd with hd; subst hd; rfl, fun h => by cases h⟩, hS, Below.refl _ _⟩
    · as_aux_lemma =>
        intro vals a W hS hL; have e52 : a.tmps.getD 52 undef = .bool true := hL.1; clear hL; refine ⟨true, e52, ?_⟩; rw [if_pos rfl]; go_simp; refine (lS_x (w := W) [52]).mono ?_; rintro e W2 ⟨rfl, hb⟩; exact ⟨_, rfl, ⟨fun d hd => by injection hd with hd; subst hd; rfl, fun h => by cases h⟩, hS.call hb, hb⟩
    · as_aux_lemma =>
        intro vals a W hS hL; have e54 : a.tmps.getD 54 undef = .agg (vc (.str [52])).toArray := hL.1; have e52 : a.tmps.getD 52 undef = .bool true := hL.2.1; clear hL; refine ⟨true, e52, ?_⟩; rw [if_pos rfl]; go_simp; refine (fOne_any (w := W) (.str [52])).mono ?_; rintro e W2 ⟨g, hg, rfl, hbk, hb⟩; exact ⟨_, rfl, ⟨fun d hd => by injection hd with hd; subst hd; exact ⟨g, rfl, hbk⟩, fun h => by cases h⟩, hS.call hb, hb⟩
    · as_aux_lemma =>
        intro vals a W hS hL; have e53 : a.tmps.getD 53 undef = .agg (ac true (some ⟨q1, 0, none⟩) 4 4).toArray := hL.1; have e55 := hL.2.1; have e52 : a.tmps.getD 52 undef = .bool true := hL.2.2.1; clear hL; refine ⟨true, e52, ?_⟩; rw [if_pos rfl]; refine lands_v (run_bsa2 (argv_eq e53 (argv_area (hS.get (i := 1) rfl))) (onev e55) rfl) ?_; have hb := bel0 W (.cells (agCs (a.tmps.getD 53 undef) ++ agCs (a.tmps.getD 55 undef)).toArray 55); exact ⟨⟨fun d hd => by injection hd with hd; subst hd; exact rows_made2 (argv_eq e53 (argv_area (hS.get (i := 1) rfl))) (onev e55), fun h => by cases h⟩, hS.call hb, hb⟩
    · as_aux_lemma =>
        intro vals a W hS hL; have e56 := hL.1; have e52 : a.tmps.getD 52 undef = .bool true := hL.2.1; clear hL; refine ⟨true, e52, ?_⟩; rw [if_pos rfl]; obtain ⟨A1, c1, hq, hr⟩ := e56; go_simp; refine Calls.mono (kn_0 (HF.out.below hS.bel) hr) ?_; rintro e W2 ⟨rfl, hb⟩; exact ⟨_, rfl, ⟨fun d hd => by injection hd with hd; subst hd; rfl, fun h => by cases h⟩, hS.call hb, hb⟩
    · as_aux_lemma =>
        intro vals a W hS hL; have e52 : a.tmps.getD 52 undef = .bool true := hL.1; clear hL; refine ⟨true, e52, ?_⟩; rw [if_pos rfl]; go_simp; refine (lN_x (w := W) (7)).mono ?_; rintro e W2 ⟨rfl, hb⟩; exact ⟨_, rfl, ⟨fun d hd => by injection hd with hd; subst hd; rfl, fun h => by cases h⟩, hS.call hb, hb⟩
    · as_aux_lemma =>
        intro vals a W hS hL; have e57 : a.tmps.getD 57 undef = .agg (vc (.num 7 0)).toArray := hL.1; have e58 : a.tmps.getD 58 undef = .agg (vc (.num 7 0)).toArray := hL.2.1; have e52 : a.tmps.getD 52 undef = .bool true := hL.2.2.1; clear hL; refine ⟨true, e52, ?_⟩; rw [if_pos rfl]; refine lands_v (run_eq32 (v := (.num 7 0)) rfl e57 e58) ?_; exact ⟨⟨fun d hd => by injection hd with hd; subst hd; rfl, fun h => by cases h⟩, hS, Below.refl _ _⟩
    · as_aux_lemma =>
        intro vals a W hS hL; have e52 : a.tmps.getD 52 undef = .bool true := hL.1; have e59 : a.tmps.getD 59 undef = .bool true := hL.2.1; clear hL; go_simp; exact ⟨⟨fun d hd => by injection hd with hd; subst hd; rfl, fun h => by cases h⟩, hS, (Below.refl _ _)⟩
    · as_aux_lemma =>
        intro vals a W hS hL; have e60 : a.tmps.getD 60 undef = .bool true := hL.1; clear hL; go_simp; exact ⟨⟨fun d hd => by injection hd with hd; subst hd; rfl, fun h => by cases h⟩, hS, (Below.refl _ _)⟩
    · as_aux_lemma =>
        intro vals a W hS hL; have e1 : a.tmps.getD 1 undef = .pointer (some ⟨gA, 0, none⟩) := hL.1; have e61 : a.tmps.getD 61 undef = .bool true := hL.2.1; clear hL; refine ⟨true, e61, ?_⟩; rw [if_pos rfl]; refine lands_v (run_ldg (show RowT 55 (ac true (some ⟨q1, 0, none⟩) 4 4).length from rtArg) (hS.get (i := 0) rfl) (.tmp 1) rfl e1) ?_; exact ⟨⟨fun d hd => by injection hd with hd; subst hd; rfl, fun h => by cases h⟩, hS, Below.refl _ _⟩
    · as_aux_lemma =>
        intro vals a W hS hL; have e61 : a.tmps.getD 61 undef = .bool true := hL.1; clear hL; refine ⟨true, e61, ?_⟩; rw [if_pos rfl]; refine lands_v (v := .agg (vc .blank).toArray) (w' := W) (by kernel_rfl) ?_; exact ⟨⟨fun d hd => by injection hd with hd; subst hd; rfl, fun h => by cases h⟩, hS, Below.refl _ _⟩
    · as_aux_lemma =>
        intro vals a W hS hL; have e63 : a.tmps.getD 63 undef = .agg (vc .blank).toArray := hL.1; have e61 : a.tmps.getD 61 undef = .bool true := hL.2.1; clear hL; refine ⟨true, e61, ?_⟩; rw [if_pos rfl]; go_simp; refine (fOne_any (w := W) .blank).mono ?_; rintro e W2 ⟨g, hg, rfl, hbk, hb⟩; exact ⟨_, rfl, ⟨fun d hd => by injection hd with hd; subst hd; exact ⟨g, rfl, hbk⟩, fun h => by cases h⟩, hS.call hb, hb⟩
    · as_aux_lemma =>
        intro vals a W hS hL; have e62 : a.tmps.getD 62 undef = .agg (ac true (some ⟨q1, 0, none⟩) 4 4).toArray := hL.1; have e64 := hL.2.1; have e61 : a.tmps.getD 61 undef = .bool true := hL.2.2.1; clear hL; refine ⟨true, e61, ?_⟩; rw [if_pos rfl]; refine lands_v (run_bsa2 (argv_eq e62 (argv_area (hS.get (i := 1) rfl))) (onev e64) rfl) ?_; have hb := bel0 W (.cells (agCs (a.tmps.getD 62 undef) ++ agCs (a.tmps.getD 64 undef)).toArray 55); exact ⟨⟨fun d hd => by injection hd with hd; subst hd; exact rows_made2 (argv_eq e62 (argv_area (hS.get (i := 1) rfl))) (onev e64), fun h => by cases h⟩, hS.call hb, hb⟩
    · as_aux_lemma =>
        intro vals a W hS hL; have e65 := hL.1; have e61 : a.tmps.getD 61 undef = .bool true := hL.2.1; clear hL; refine ⟨true, e61, ?_⟩; rw [if_pos rfl]; obtain ⟨A1, c1, hq, hr⟩ := e65; go_simp; refine Calls.mono (kn_3 (HF.out.below hS.bel) hr) ?_; rintro e W2 ⟨rfl, hb⟩; exact ⟨_, rfl, ⟨fun d hd => by injection hd with hd; subst hd; rfl, fun h => by cases h⟩, hS.call hb, hb⟩
    · as_aux_lemma =>
        intro vals a W hS hL; have e61 : a.tmps.getD 61 undef = .bool true := hL.1; clear hL; refine ⟨true, e61, ?_⟩; rw [if_pos rfl]; go_simp; refine (lN_x (w := W) (3)).mono ?_; rintro e W2 ⟨rfl, hb⟩; exact ⟨_, rfl, ⟨fun d hd => by injection hd with hd; subst hd; rfl, fun h => by cases h⟩, hS.call hb, hb⟩
    · as_aux_lemma =>
        intro vals a W hS hL; have e66 : a.tmps.getD 66 undef = .agg (vc (.num 3 0)).toArray := hL.1; have e67 : a.tmps.getD 67 undef = .agg (vc (.num 3 0)).toArray := hL.2.1; have e61 : a.tmps.getD 61 undef = .bool true := hL.2.2.1; clear hL; refine ⟨true, e61, ?_⟩; rw [if_pos rfl]; refine lands_v (run_eq32 (v := (.num 3 0)) rfl e66 e67) ?_; exact ⟨⟨fun d hd => by injection hd with hd; subst hd; rfl, fun h => by cases h⟩, hS, Below.refl _ _⟩
    · as_aux_lemma =>
        intro vals a W hS hL; have e61 : a.tmps.getD 61 undef = .bool true := hL.1; have e68 : a.tmps.getD 68 undef = .bool true := hL.2.1; clear hL; go_simp; exact ⟨⟨fun d hd => by injection hd with hd; subst hd; rfl, fun h => by cases h⟩, hS, (Below.refl _ _)⟩
    · as_aux_lemma =>
        intro vals a W hS hL; have e69 : a.tmps.getD 69 undef = .bool true := hL.1; clear hL; go_simp; exact ⟨⟨fun d hd => by injection hd with hd; subst hd; rfl, fun h => by cases h⟩, hS, (Below.refl _ _)⟩
    · as_aux_lemma =>
        intro vals a W hS hL; have e70 : a.tmps.getD 70 undef = .bool true := hL.1; clear hL; refine ⟨true, e70, ?_⟩; rw [if_pos rfl]; go_simp; refine Calls.mono (kn_4 (HF.out.below hS.bel)) ?_; rintro e W2 ⟨rfl, hb⟩; exact ⟨_, rfl, ⟨fun d hd => by injection hd with hd; subst hd; rfl, fun h => by cases h⟩, hS.call hb, hb⟩
    · as_aux_lemma =>
        intro vals a W hS hL; have e70 : a.tmps.getD 70 undef = .bool true := hL.1; clear hL; refine ⟨true, e70, ?_⟩; rw [if_pos rfl]; go_simp; refine (fFault (w := W) 7).mono ?_; rintro e W2 ⟨rfl, hb⟩; exact ⟨_, rfl, ⟨fun d hd => by injection hd with hd; subst hd; rfl, fun h => by cases h⟩, hS.call hb, hb⟩
    · as_aux_lemma =>
        intro vals a W hS hL; have e71 : a.tmps.getD 71 undef = .agg (vc (.err 7)).toArray := hL.1; have e72 : a.tmps.getD 72 undef = .agg (vc (.err 7)).toArray := hL.2.1; have e70 : a.tmps.getD 70 undef = .bool true := hL.2.2.1; clear hL; refine ⟨true, e70, ?_⟩; rw [if_pos rfl]; refine lands_v (run_eq32 (v := (.err 7)) rfl e71 e72) ?_; exact ⟨⟨fun d hd => by injection hd with hd; subst hd; rfl, fun h => by cases h⟩, hS, Below.refl _ _⟩
    · as_aux_lemma =>
        intro vals a W hS hL; have e70 : a.tmps.getD 70 undef = .bool true := hL.1; have e73 : a.tmps.getD 73 undef = .bool true := hL.2.1; clear hL; go_simp; exact ⟨⟨fun d hd => by injection hd with hd; subst hd; rfl, fun h => by cases h⟩, hS, (Below.refl _ _)⟩
    · as_aux_lemma =>
        intro vals a W hS hL; have e74 : a.tmps.getD 74 undef = .bool true := hL.1; clear hL; go_simp; exact ⟨⟨fun d hd => by injection hd with hd; subst hd; rfl, fun h => by cases h⟩, hS, (Below.refl _ _)⟩
    · as_aux_lemma =>
        intro vals a W hS hL; have e75 : a.tmps.getD 75 undef = .bool true := hL.1; clear hL; refine ⟨true, e75, ?_⟩; rw [if_pos rfl]; refine lands_v (v := .slice (some ⟨W.heap.size, 0, none⟩) 2 2) (w' := W.alloc (.cells ([(-7), 3].map (Value.int .i64)).toArray 2)) (by kernel_rfl) ?_; have hb := bel0 W (.cells ([(-7), 3].map (Value.int .i64)).toArray 2); exact ⟨⟨fun d hd => by injection hd with hd; subst hd; exact ⟨_, rfl, Bk.new _ _ _⟩, fun h => by cases h⟩, hS.call hb, hb⟩
    · as_aux_lemma =>
        intro vals a W hS hL; have e76 := hL.1; have e75 : a.tmps.getD 75 undef = .bool true := hL.2.1; clear hL; refine ⟨true, e75, ?_⟩; rw [if_pos rfl]; obtain ⟨q, hq, hbk⟩ := e76; go_simp; refine (two_any (w := W) (l := [(-7), 3]) hbk (by decide)).mono ?_; rintro e W2 ⟨A1, c1, rfl, hc, hr, hb⟩; exact ⟨_, rfl, ⟨fun d hd => by injection hd with hd; subst hd; exact ⟨A1, c1, rfl, hr⟩, fun h => by cases h⟩, hS.call hb, hb⟩
    · as_aux_lemma =>
        intro vals a W hS hL; have e77 := hL.1; have e75 : a.tmps.getD 75 undef = .bool true := hL.2.1; clear hL; refine ⟨true, e75, ?_⟩; rw [if_pos rfl]; obtain ⟨A1, c1, hq, hr⟩ := e77; go_simp; refine Calls.mono (kn_8 (HF.out.below hS.bel) hr) ?_; rintro e W2 ⟨rfl, hb⟩; exact ⟨_, rfl, ⟨fun d hd => by injection hd with hd; subst hd; rfl, fun h => by cases h⟩, hS.call hb, hb⟩
    · as_aux_lemma =>
        intro vals a W hS hL; have e75 : a.tmps.getD 75 undef = .bool true := hL.1; clear hL; refine ⟨true, e75, ?_⟩; rw [if_pos rfl]; go_simp; refine (lN_x (w := W) (2)).mono ?_; rintro e W2 ⟨rfl, hb⟩; exact ⟨_, rfl, ⟨fun d hd => by injection hd with hd; subst hd; rfl, fun h => by cases h⟩, hS.call hb, hb⟩
    · as_aux_lemma =>
        intro vals a W hS hL; have e78 : a.tmps.getD 78 undef = .agg (vc (.num 2 0)).toArray := hL.1; have e79 : a.tmps.getD 79 undef = .agg (vc (.num 2 0)).toArray := hL.2.1; have e75 : a.tmps.getD 75 undef = .bool true := hL.2.2.1; clear hL; refine ⟨true, e75, ?_⟩; rw [if_pos rfl]; refine lands_v (run_eq32 (v := (.num 2 0)) rfl e78 e79) ?_; exact ⟨⟨fun d hd => by injection hd with hd; subst hd; rfl, fun h => by cases h⟩, hS, Below.refl _ _⟩
    · as_aux_lemma =>
        intro vals a W hS hL; have e75 : a.tmps.getD 75 undef = .bool true := hL.1; have e80 : a.tmps.getD 80 undef = .bool true := hL.2.1; clear hL; go_simp; exact ⟨⟨fun d hd => by injection hd with hd; subst hd; rfl, fun h => by cases h⟩, hS, (Below.refl _ _)⟩
    · as_aux_lemma =>
        intro vals a W hS hL; have e81 : a.tmps.getD 81 undef = .bool true := hL.1; clear hL; go_simp; exact ⟨⟨fun d hd => by injection hd with hd; subst hd; rfl, fun h => by cases h⟩, hS, (Below.refl _ _)⟩
    · as_aux_lemma =>
        intro vals a W hS hL; have e82 : a.tmps.getD 82 undef = .bool true := hL.1; clear hL; refine ⟨true, e82, ?_⟩; rw [if_pos rfl]; go_simp; refine (lS_x (w := W) [97, 195, 169, 98]).mono ?_; rintro e W2 ⟨rfl, hb⟩; exact ⟨_, rfl, ⟨fun d hd => by injection hd with hd; subst hd; rfl, fun h => by cases h⟩, hS.call hb, hb⟩
    · as_aux_lemma =>
        intro vals a W hS hL; have e83 : a.tmps.getD 83 undef = .agg (vc (.str [97, 195, 169, 98])).toArray := hL.1; have e82 : a.tmps.getD 82 undef = .bool true := hL.2.1; clear hL; refine ⟨true, e82, ?_⟩; rw [if_pos rfl]; go_simp; refine (fOne_any (w := W) (.str [97, 195, 169, 98])).mono ?_; rintro e W2 ⟨g, hg, rfl, hbk, hb⟩; exact ⟨_, rfl, ⟨fun d hd => by injection hd with hd; subst hd; exact ⟨g, rfl, hbk⟩, fun h => by cases h⟩, hS.call hb, hb⟩
    · as_aux_lemma =>
        intro vals a W hS hL; have e82 : a.tmps.getD 82 undef = .bool true := hL.1; clear hL; refine ⟨true, e82, ?_⟩; rw [if_pos rfl]; go_simp; refine (lN_x (w := W) (2)).mono ?_; rintro e W2 ⟨rfl, hb⟩; exact ⟨_, rfl, ⟨fun d hd => by injection hd with hd; subst hd; rfl, fun h => by cases h⟩, hS.call hb, hb⟩
    · as_aux_lemma =>
        intro vals a W hS hL; have e85 : a.tmps.getD 85 undef = .agg (vc (.num 2 0)).toArray := hL.1; have e82 : a.tmps.getD 82 undef = .bool true := hL.2.1; clear hL; refine ⟨true, e82, ?_⟩; rw [if_pos rfl]; go_simp; refine (fOne_any (w := W) (.num 2 0)).mono ?_; rintro e W2 ⟨g, hg, rfl, hbk, hb⟩; exact ⟨_, rfl, ⟨fun d hd => by injection hd with hd; subst hd; exact ⟨g, rfl, hbk⟩, fun h => by cases h⟩, hS.call hb, hb⟩
    · as_aux_lemma =>
        intro vals a W hS hL; have e82 : a.tmps.getD 82 undef = .bool true := hL.1; clear hL; refine ⟨true, e82, ?_⟩; rw [if_pos rfl]; go_simp; refine (lN_x (w := W) (5)).mono ?_; rintro e W2 ⟨rfl, hb⟩; exact ⟨_, rfl, ⟨fun d hd => by injection hd with hd; subst hd; rfl, fun h => by cases h⟩, hS.call hb, hb⟩
    · as_aux_lemma =>
        intro vals a W hS hL; have e87 : a.tmps.getD 87 undef = .agg (vc (.num 5 0)).toArray := hL.1; have e82 : a.tmps.getD 82 undef = .bool true := hL.2.1; clear hL; refine ⟨true, e82, ?_⟩; rw [if_pos rfl]; go_simp; refine (fOne_any (w := W) (.num 5 0)).mono ?_; rintro e W2 ⟨g, hg, rfl, hbk, hb⟩; exact ⟨_, rfl, ⟨fun d hd => by injection hd with hd; subst hd; exact ⟨g, rfl, hbk⟩, fun h => by cases h⟩, hS.call hb, hb⟩
    · as_aux_lemma =>
        intro vals a W hS hL; have e84 := hL.1; have e86 := hL.2.1; have e88 := hL.2.2.1; have e82 : a.tmps.getD 82 undef = .bool true := hL.2.2.2.1; clear hL; refine ⟨true, e82, ?_⟩; rw [if_pos rfl]; refine lands_v (run_bsa3 (onev e84) (onev e86) (onev e88) rfl) ?_; have hb := bel0 W (.cells (agCs (a.tmps.getD 84 undef) ++ agCs (a.tmps.getD 86 undef) ++ agCs (a.tmps.getD 88 undef)).toArray 55); exact ⟨⟨fun d hd => by injection hd with hd; subst hd; exact rows_made3 (onev e84) (onev e86) (onev e88), fun h => by cases h⟩, hS.call hb, hb⟩
    · as_aux_lemma =>
        intro vals a W hS hL; have e89 := hL.1; have e82 : a.tmps.getD 82 undef = .bool true := hL.2.1; clear hL; refine ⟨true, e82, ?_⟩; rw [if_pos rfl]; obtain ⟨A1, c1, hq, hr⟩ := e89; go_simp; refine Calls.mono (kn_17 (HF.out.below hS.bel) (HT.out.below hS.bel) (HV.out.below hS.bel) hr) ?_; rintro e W2 ⟨rfl, hb⟩; exact ⟨_, rfl, ⟨fun d hd => by injection hd with hd; subst hd; rfl, fun h => by cases h⟩, hS.call hb, hb⟩
    · as_aux_lemma =>
        intro vals a W hS hL; have e82 : a.tmps.getD 82 undef = .bool true := hL.1; clear hL; refine ⟨true, e82, ?_⟩; rw [if_pos rfl]; go_simp; refine (lS_x (w := W) [195, 169, 98]).mono ?_; rintro e W2 ⟨rfl, hb⟩; exact ⟨_, rfl, ⟨fun d hd => by injection hd with hd; subst hd; rfl, fun h => by cases h⟩, hS.call hb, hb⟩
    · as_aux_lemma =>
        intro vals a W hS hL; have e90 : a.tmps.getD 90 undef = .agg (vc (.str [195, 169, 98])).toArray := hL.1; have e91 : a.tmps.getD 91 undef = .agg (vc (.str [195, 169, 98])).toArray := hL.2.1; have e82 : a.tmps.getD 82 undef = .bool true := hL.2.2.1; clear hL; refine ⟨true, e82, ?_⟩; rw [if_pos rfl]; refine lands_v (run_eq32 (v := (.str [195, 169, 98])) rfl e90 e91) ?_; exact ⟨⟨fun d hd => by injection hd with hd; subst hd; rfl, fun h => by cases h⟩, hS, Below.refl _ _⟩
    · as_aux_lemma =>
        intro vals a W hS hL; have e82 : a.tmps.getD 82 undef = .bool true := hL.1; have e92 : a.tmps.getD 92 undef = .bool true := hL.2.1; clear hL; go_simp; exact ⟨⟨fun d hd => by injection hd with hd; subst hd; rfl, fun h => by cases h⟩, hS, (Below.refl _ _)⟩
    · as_aux_lemma =>
        intro vals a W hS hL; have e93 : a.tmps.getD 93 undef = .bool true := hL.1; clear hL; go_simp; exact ⟨⟨fun d hd => by injection hd with hd; subst hd; rfl, fun h => by cases h⟩, hS, (Below.refl _ _)⟩
    · as_aux_lemma =>
        intro vals a W hS hL; have e94 : a.tmps.getD 94 undef = .bool true := hL.1; clear hL; refine ⟨true, e94, ?_⟩; rw [if_pos rfl]; refine lands_v (v := .slice (some ⟨W.heap.size, 0, none⟩) 2 2) (w' := W.alloc (.cells ([0, 5].map (Value.int .i64)).toArray 2)) (by kernel_rfl) ?_; have hb := bel0 W (.cells ([0, 5].map (Value.int .i64)).toArray 2); exact ⟨⟨fun d hd => by injection hd with hd; subst hd; exact ⟨_, rfl, Bk.new _ _ _⟩, fun h => by cases h⟩, hS.call hb, hb⟩
    · as_aux_lemma =>
        intro vals a W hS hL; have e95 := hL.1; have e94 : a.tmps.getD 94 undef = .bool true := hL.2.1; clear hL; refine ⟨true, e94, ?_⟩; rw [if_pos rfl]; obtain ⟨q, hq, hbk⟩ := e95; go_simp; refine (two_any (w := W) (l := [0, 5]) hbk (by decide)).mono ?_; rintro e W2 ⟨A1, c1, rfl, hc, hr, hb⟩; exact ⟨_, rfl, ⟨fun d hd => by injection hd with hd; subst hd; exact ⟨A1, c1, rfl, hr⟩, fun h => by cases h⟩, hS.call hb, hb⟩
    · as_aux_lemma =>
        intro vals a W hS hL; have e96 := hL.1; have e94 : a.tmps.getD 94 undef = .bool true := hL.2.1; clear hL; refine ⟨true, e94, ?_⟩; rw [if_pos rfl]; obtain ⟨A1, c1, hq, hr⟩ := e96; go_simp; refine Calls.mono (kn_10 (HF.out.below hS.bel) hr) ?_; rintro e W2 ⟨rfl, hb⟩; exact ⟨_, rfl, ⟨fun d hd => by injection hd with hd; subst hd; rfl, fun h => by cases h⟩, hS.call hb, hb⟩
    · as_aux_lemma =>
        intro vals a W hS hL; have e94 : a.tmps.getD 94 undef = .bool true := hL.1; clear hL; refine ⟨true, e94, ?_⟩; rw [if_pos rfl]; refine lands_v (v := .agg (vc (.bool false)).toArray) (w' := W) (by kernel_rfl) ?_; exact ⟨⟨fun d hd => by injection hd with hd; subst hd; rfl, fun h => by cases h⟩, hS, Below.refl _ _⟩
    · as_aux_lemma =>
        intro vals a W hS hL; have e97 : a.tmps.getD 97 undef = .agg (vc (.bool false)).toArray := hL.1; have e98 : a.tmps.getD 98 undef = .agg (vc (.bool false)).toArray := hL.2.1; have e94 : a.tmps.getD 94 undef = .bool true := hL.2.2.1; clear hL; refine ⟨true, e94, ?_⟩; rw [if_pos rfl]; refine lands_v (run_eq32 (v := (.bool false)) rfl e97 e98) ?_; exact ⟨⟨fun d hd => by injection hd with hd; subst hd; rfl, fun h => by cases h⟩, hS, Below.refl _ _⟩
    · as_aux_lemma =>
        intro vals a W hS hL; have e94 : a.tmps.getD 94 undef = .bool true := hL.1; have e99 : a.tmps.getD 99 undef = .bool true := hL.2.1; clear hL; go_simp; exact ⟨⟨fun d hd => by injection hd with hd; subst hd; rfl, fun h => by cases h⟩, hS, (Below.refl _ _)⟩
    · as_aux_lemma =>
        intro vals a W hS hL; have e100 : a.tmps.getD 100 undef = .bool true := hL.1; clear hL; go_simp; exact ⟨⟨fun d hd => by injection hd with hd; subst hd; rfl, fun h => by cases h⟩, hS, (Below.refl _ _)⟩
    · as_aux_lemma =>
        intro vals a W hS hL; have e1 : a.tmps.getD 1 undef = .pointer (some ⟨gA, 0, none⟩) := hL.1; have e101 : a.tmps.getD 101 undef = .bool true := hL.2.1; clear hL; refine ⟨true, e101, ?_⟩; rw [if_pos rfl]; refine lands_v (run_ldg (show RowT 55 (ac true (some ⟨q1, 0, none⟩) 4 4).length from rtArg) (hS.get (i := 0) rfl) (.tmp 1) rfl e1) ?_; exact ⟨⟨fun d hd => by injection hd with hd; subst hd; rfl, fun h => by cases h⟩, hS, Below.refl _ _⟩
    · as_aux_lemma =>
        intro vals a W hS hL; have e101 : a.tmps.getD 101 undef = .bool true := hL.1; clear hL; refine ⟨true, e101, ?_⟩; rw [if_pos rfl]; go_simp; refine (lN_x (w := W) (3)).mono ?_; rintro e W2 ⟨rfl, hb⟩; exact ⟨_, rfl, ⟨fun d hd => by injection hd with hd; subst hd; rfl, fun h => by cases h⟩, hS.call hb, hb⟩
    · as_aux_lemma =>
        intro vals a W hS hL; have e103 : a.tmps.getD 103 undef = .agg (vc (.num 3 0)).toArray := hL.1; have e101 : a.tmps.getD 101 undef = .bool true := hL.2.1; clear hL; refine ⟨true, e101, ?_⟩; rw [if_pos rfl]; go_simp; refine (fOne_any (w := W) (.num 3 0)).mono ?_; rintro e W2 ⟨g, hg, rfl, hbk, hb⟩; exact ⟨_, rfl, ⟨fun d hd => by injection hd with hd; subst hd; exact ⟨g, rfl, hbk⟩, fun h => by cases h⟩, hS.call hb, hb⟩
    · as_aux_lemma =>
        intro vals a W hS hL; have e102 : a.tmps.getD 102 undef = .agg (ac true (some ⟨q1, 0, none⟩) 4 4).toArray := hL.1; have e104 := hL.2.1; have e101 : a.tmps.getD 101 undef = .bool true := hL.2.2.1; clear hL; refine ⟨true, e101, ?_⟩; rw [if_pos rfl]; refine lands_v (run_bsa2 (argv_eq e102 (argv_area (hS.get (i := 1) rfl))) (onev e104) rfl) ?_; have hb := bel0 W (.cells (agCs (a.tmps.getD 102 undef) ++ agCs (a.tmps.getD 104 undef)).toArray 55); exact ⟨⟨fun d hd => by injection hd with hd; subst hd; exact rows_made2 (argv_eq e102 (argv_area (hS.get (i := 1) rfl))) (onev e104), fun h => by cases h⟩, hS.call hb, hb⟩
    · as_aux_lemma =>
        intro vals a W hS hL; have e105 := hL.1; have e101 : a.tmps.getD 101 undef = .bool true := hL.2.1; clear hL; refine ⟨true, e101, ?_⟩; rw [if_pos rfl]; obtain ⟨A1, c1, hq, hr⟩ := e105; go_simp; refine Calls.mono (kn_24 (HF.out.below hS.bel) hr) ?_; rintro e W2 ⟨rfl, hb⟩; exact ⟨_, rfl, ⟨fun d hd => by injection hd with hd; subst hd; rfl, fun h => by cases h⟩, hS.call hb, hb⟩
    · as_aux_lemma =>
        intro vals a W hS hL; have e101 : a.tmps.getD 101 undef = .bool true := hL.1; clear hL; refine ⟨true, e101, ?_⟩; rw [if_pos rfl]; go_simp; refine (lN_x (w := W) (2)).mono ?_; rintro e W2 ⟨rfl, hb⟩; exact ⟨_, rfl, ⟨fun d hd => by injection hd with hd; subst hd; rfl, fun h => by cases h⟩, hS.call hb, hb⟩
    · as_aux_lemma =>
        intro vals a W hS hL; have e106 : a.tmps.getD 106 undef = .agg (vc (.num 2 0)).toArray := hL.1; have e107 : a.tmps.getD 107 undef = .agg (vc (.num 2 0)).toArray := hL.2.1; have e101 : a.tmps.getD 101 undef = .bool true := hL.2.2.1; clear hL; refine ⟨true, e101, ?_⟩; rw [if_pos rfl]; refine lands_v (run_eq32 (v := (.num 2 0)) rfl e106 e107) ?_; exact ⟨⟨fun d hd => by injection hd with hd; subst hd; rfl, fun h => by cases h⟩, hS, Below.refl _ _⟩
    · as_aux_lemma =>
        intro vals a W hS hL; have e101 : a.tmps.getD 101 undef = .bool true := hL.1; have e108 : a.tmps.getD 108 undef = .bool true := hL.2.1; clear hL; go_simp; exact ⟨⟨fun d hd => by injection hd with hd; subst hd; rfl, fun h => by cases h⟩, hS, (Below.refl _ _)⟩
    · as_aux_lemma =>
        intro vals a W hS hL; have e109 : a.tmps.getD 109 undef = .bool true := hL.1; clear hL; go_simp; exact ⟨⟨fun d hd => by injection hd with hd; subst hd; rfl, fun h => by cases h⟩, hS, (Below.refl _ _)⟩
    · as_aux_lemma =>
        intro vals a W hS hL; have e1 : a.tmps.getD 1 undef = .pointer (some ⟨gA, 0, none⟩) := hL.1; have e110 : a.tmps.getD 110 undef = .bool true := hL.2.1; clear hL; refine ⟨true, e110, ?_⟩; rw [if_pos rfl]; refine lands_v (run_ldg (show RowT 55 (ac true (some ⟨q1, 0, none⟩) 4 4).length from rtArg) (hS.get (i := 0) rfl) (.tmp 1) rfl e1) ?_; exact ⟨⟨fun d hd => by injection hd with hd; subst hd; rfl, fun h => by cases h⟩, hS, Below.refl _ _⟩
    · as_aux_lemma =>
        intro vals a W hS hL; have e110 : a.tmps.getD 110 undef = .bool true := hL.1; clear hL; refine ⟨true, e110, ?_⟩; rw [if_pos rfl]; go_simp; refine (lN_x (w := W) (5)).mono ?_; rintro e W2 ⟨rfl, hb⟩; exact ⟨_, rfl, ⟨fun d hd => by injection hd with hd; subst hd; rfl, fun h => by cases h⟩, hS.call hb, hb⟩
    · as_aux_lemma =>
        intro vals a W hS hL; have e112 : a.tmps.getD 112 undef = .agg (vc (.num 5 0)).toArray := hL.1; have e110 : a.tmps.getD 110 undef = .bool true := hL.2.1; clear hL; refine ⟨true, e110, ?_⟩; rw [if_pos rfl]; go_simp; refine (fOne_any (w := W) (.num 5 0)).mono ?_; rintro e W2 ⟨g, hg, rfl, hbk, hb⟩; exact ⟨_, rfl, ⟨fun d hd => by injection hd with hd; subst hd; exact ⟨g, rfl, hbk⟩, fun h => by cases h⟩, hS.call hb, hb⟩
    · as_aux_lemma =>
        intro vals a W hS hL; have e111 : a.tmps.getD 111 undef = .agg (ac true (some ⟨q1, 0, none⟩) 4 4).toArray := hL.1; have e113 := hL.2.1; have e110 : a.tmps.getD 110 undef = .bool true := hL.2.2.1; clear hL; refine ⟨true, e110, ?_⟩; rw [if_pos rfl]; refine lands_v (run_bsa2 (argv_eq e111 (argv_area (hS.get (i := 1) rfl))) (onev e113) rfl) ?_; have hb := bel0 W (.cells (agCs (a.tmps.getD 111 undef) ++ agCs (a.tmps.getD 113 undef)).toArray 55); exact ⟨⟨fun d hd => by injection hd with hd; subst hd; exact rows_made2 (argv_eq e111 (argv_area (hS.get (i := 1) rfl))) (onev e113), fun h => by cases h⟩, hS.call hb, hb⟩
    · as_aux_lemma =>
        intro vals a W hS hL; have e114 := hL.1; have e110 : a.tmps.getD 110 undef = .bool true := hL.2.1; clear hL; refine ⟨true, e110, ?_⟩; rw [if_pos rfl]; obtain ⟨A1, c1, hq, hr⟩ := e114; go_simp; refine Calls.mono (kn_24b (HF.out.below hS.bel) hr) ?_; rintro e W2 ⟨rfl, hb⟩; exact ⟨_, rfl, ⟨fun d hd => by injection hd with hd; subst hd; rfl, fun h => by cases h⟩, hS.call hb, hb⟩
    · as_aux_lemma =>
        intro vals a W hS hL; have e110 : a.tmps.getD 110 undef = .bool true := hL.1; clear hL; refine ⟨true, e110, ?_⟩; rw [if_pos rfl]; go_simp; refine (fFault (w := W) 23).mono ?_; rintro e W2 ⟨rfl, hb⟩; exact ⟨_, rfl, ⟨fun d hd => by injection hd with hd; subst hd; rfl, fun h => by cases h⟩, hS.call hb, hb⟩
    · as_aux_lemma =>
        intro vals a W hS hL; have e115 : a.tmps.getD 115 undef = .agg (vc (.err 23)).toArray := hL.1; have e116 : a.tmps.getD 116 undef = .agg (vc (.err 23)).toArray := hL.2.1; have e110 : a.tmps.getD 110 undef = .bool true := hL.2.2.1; clear hL; refine ⟨true, e110, ?_⟩; rw [if_pos rfl]; refine lands_v (run_eq32 (v := (.err 23)) rfl e115 e116) ?_; exact ⟨⟨fun d hd => by injection hd with hd; subst hd; rfl, fun h => by cases h⟩, hS, Below.refl _ _⟩
    · as_aux_lemma =>
        intro vals a W hS hL; have e110 : a.tmps.getD 110 undef = .bool true := hL.1; have e117 : a.tmps.getD 117 undef = .bool true := hL.2.1; clear hL; go_simp; exact ⟨⟨fun d hd => by injection hd with hd; subst hd; rfl, fun h => by cases h⟩, hS, (Below.refl _ _)⟩
    · as_aux_lemma =>
        intro vals a W hS hL; have e118 : a.tmps.getD 118 undef = .bool true := hL.1; clear hL; go_simp; exact ⟨⟨fun d hd => by injection hd with hd; subst hd; rfl, fun h => by cases h⟩, hS, (Below.refl _ _)⟩
    · as_aux_lemma =>
        intro vals a W hS hL; have e1 : a.tmps.getD 1 undef = .pointer (some ⟨gA, 0, none⟩) := hL.1; have e119 : a.tmps.getD 119 undef = .bool true := hL.2.1; clear hL; refine ⟨true, e119, ?_⟩; rw [if_pos rfl]; refine lands_v (run_ldg (show RowT 55 (ac true (some ⟨q1, 0, none⟩) 4 4).length from rtArg) (hS.get (i := 0) rfl) (.tmp 1) rfl e1) ?_; exact ⟨⟨fun d hd => by injection hd with hd; subst hd; rfl, fun h => by cases h⟩, hS, Below.refl _ _⟩
    · as_aux_lemma =>
        intro vals a W hS hL; have e120 : a.tmps.getD 120 undef = .agg (ac true (some ⟨q1, 0, none⟩) 4 4).toArray := hL.1; have e119 : a.tmps.getD 119 undef = .bool true := hL.2.1; clear hL; refine ⟨true, e119, ?_⟩; rw [if_pos rfl]; refine lands_v (run_bsa1 (argv_eq e120 (argv_area (hS.get (i := 1) rfl))) rfl) ?_; have hb := bel0 W (.cells (agCs (a.tmps.getD 120 undef)).toArray 55); exact ⟨⟨fun d hd => by injection hd with hd; subst hd; exact rows_made1 (argv_eq e120 (argv_area (hS.get (i := 1) rfl))), fun h => by cases h⟩, hS.call hb, hb⟩
    · as_aux_lemma =>
        intro vals a W hS hL; have e121 := hL.1; have e119 : a.tmps.getD 119 undef = .bool true := hL.2.1; clear hL; refine ⟨true, e119, ?_⟩; rw [if_pos rfl]; obtain ⟨A1, c1, hq, hr⟩ := e121; go_simp; refine Calls.mono (kn_5 (HF.out.below hS.bel) hr) ?_; rintro e W2 ⟨rfl, hb⟩; exact ⟨_, rfl, ⟨fun d hd => by injection hd with hd; subst hd; rfl, fun h => by cases h⟩, hS.call hb, hb⟩
    · as_aux_lemma =>
        intro vals a W hS hL; have e119 : a.tmps.getD 119 undef = .bool true := hL.1; clear hL; refine ⟨true, e119, ?_⟩; rw [if_pos rfl]; go_simp; refine (fFault (w := W) 15).mono ?_; rintro e W2 ⟨rfl, hb⟩; exact ⟨_, rfl, ⟨fun d hd => by injection hd with hd; subst hd; rfl, fun h => by cases h⟩, hS.call hb, hb⟩
    · as_aux_lemma =>
        intro vals a W hS hL; have e122 : a.tmps.getD 122 undef = .agg (vc (.err 15)).toArray := hL.1; have e123 : a.tmps.getD 123 undef = .agg (vc (.err 15)).toArray := hL.2.1; have e119 : a.tmps.getD 119 undef = .bool true := hL.2.2.1; clear hL; refine ⟨true, e119, ?_⟩; rw [if_pos rfl]; refine lands_v (run_eq32 (v := (.err 15)) rfl e122 e123) ?_; exact ⟨⟨fun d hd => by injection hd with hd; subst hd; rfl, fun h => by cases h⟩, hS, Below.refl _ _⟩
    · as_aux_lemma =>
        intro vals a W hS hL; have e119 : a.tmps.getD 119 undef = .bool true := hL.1; have e124 : a.tmps.getD 124 undef = .bool true := hL.2.1; clear hL; go_simp; exact ⟨⟨fun d hd => by injection hd with hd; subst hd; rfl, fun h => by cases h⟩, hS, (Below.refl _ _)⟩
    · as_aux_lemma =>
        intro vals a W hS hL; have e125 : a.tmps.getD 125 undef = .bool true := hL.1; clear hL; go_simp; exact ⟨⟨fun d hd => by injection hd with hd; subst hd; rfl, fun h => by cases h⟩, hS, (Below.refl _ _)⟩
    · as_aux_lemma =>
        intro vals a W hS hL; have e126 : a.tmps.getD 126 undef = .bool true := hL.1; clear hL; refine ⟨true, e126, ?_⟩; rw [if_pos rfl]; go_simp; refine Calls.mono (kn_28 (HF.out.below hS.bel)) ?_; rintro e W2 ⟨rfl, hb⟩; exact ⟨_, rfl, ⟨fun d hd => by injection hd with hd; subst hd; rfl, fun h => by cases h⟩, hS.call hb, hb⟩
    · as_aux_lemma =>
        intro vals a W hS hL; have e126 : a.tmps.getD 126 undef = .bool true := hL.1; clear hL; refine ⟨true, e126, ?_⟩; rw [if_pos rfl]; go_simp; refine (fFault (w := W) 42).mono ?_; rintro e W2 ⟨rfl, hb⟩; exact ⟨_, rfl, ⟨fun d hd => by injection hd with hd; subst hd; rfl, fun h => by cases h⟩, hS.call hb, hb⟩
    · as_aux_lemma =>
        intro vals a W hS hL; have e127 : a.tmps.getD 127 undef = .agg (vc (.err 42)).toArray := hL.1; have e128 : a.tmps.getD 128 undef = .agg (vc (.err 42)).toArray := hL.2.1; have e126 : a.tmps.getD 126 undef = .bool true := hL.2.2.1; clear hL; refine ⟨true, e126, ?_⟩; rw [if_pos rfl]; refine lands_v (run_eq32 (v := (.err 42)) rfl e127 e128) ?_; exact ⟨⟨fun d hd => by injection hd with hd; subst hd; rfl, fun h => by cases h⟩, hS, Below.refl _ _⟩
    · as_aux_lemma =>
        intro vals a W hS hL; have e126 : a.tmps.getD 126 undef = .bool true := hL.1; have e129 : a.tmps.getD 129 undef = .bool true := hL.2.1; clear hL; go_simp; exact ⟨⟨fun d hd => by injection hd with hd; subst hd; rfl, fun h => by cases h⟩, hS, (Below.refl _ _)⟩
    · as_aux_lemma =>
        intro vals a W hS hL; have e130 : a.tmps.getD 130 undef = .bool true := hL.1; clear hL; go_simp; exact ⟨⟨fun d hd => by injection hd with hd; subst hd; rfl, fun h => by cases h⟩, hS, (Below.refl _ _)⟩
    · as_aux_lemma =>
        intro vals a W hS hL; have e131 : a.tmps.getD 131 undef = .bool true := hL.1; clear hL; refine ⟨true, e131, ?_⟩; rw [if_pos rfl]; go_simp; refine (lN_x (w := W) (2)).mono ?_; rintro e W2 ⟨rfl, hb⟩; exact ⟨_, rfl, ⟨fun d hd => by injection hd with hd; subst hd; rfl, fun h => by cases h⟩, hS.call hb, hb⟩
    · as_aux_lemma =>
        intro vals a W hS hL; have e131 : a.tmps.getD 131 undef = .bool true := hL.1; clear hL; refine ⟨true, e131, ?_⟩; rw [if_pos rfl]; go_simp; refine (lN_x (w := W) (-1)).mono ?_; rintro e W2 ⟨rfl, hb⟩; exact ⟨_, rfl, ⟨fun d hd => by injection hd with hd; subst hd; rfl, fun h => by cases h⟩, hS.call hb, hb⟩
    · as_aux_lemma =>
        intro vals a W hS hL; have e132 : a.tmps.getD 132 undef = .agg (vc (.num 2 0)).toArray := hL.1; have e133 : a.tmps.getD 133 undef = .agg (vc (.num (-1) 0)).toArray := hL.2.1; have e131 : a.tmps.getD 131 undef = .bool true := hL.2.2.1; clear hL; refine ⟨true, e131, ?_⟩; rw [if_pos rfl]; go_simp; refine (kb_5 (HT.out.below hS.bel) (HV.out.below hS.bel)).mono ?_; rintro e W2 ⟨rfl, hb⟩; exact ⟨_, rfl, ⟨fun d hd => by injection hd with hd; subst hd; rfl, fun h => by cases h⟩, hS.call hb, hb⟩
    · as_aux_lemma =>
        intro vals a W hS hL; have e131 : a.tmps.getD 131 undef = .bool true := hL.1; clear hL; refine ⟨true, e131, ?_⟩; rw [if_pos rfl]; refine lands_v (v := .agg (dc 5 (1 : Nat)).toArray) (w' := W) (by kernel_rfl) ?_; exact ⟨⟨fun d hd => by injection hd with hd; subst hd; rfl, fun h => by cases h⟩, hS, Below.refl _ _⟩
    · as_aux_lemma =>
        intro vals a W hS hL; have e135 : a.tmps.getD 135 undef = .agg (dc 5 (1 : Nat)).toArray := hL.1; have e131 : a.tmps.getD 131 undef = .bool true := hL.2.1; clear hL; refine ⟨true, e131, ?_⟩; rw [if_pos rfl]; refine lands_v (run_bn rfl e135) ?_; exact ⟨⟨fun d hd => by injection hd with hd; subst hd; rfl, fun h => by cases h⟩, hS, Below.refl _ _⟩
    · as_aux_lemma =>
        intro vals a W hS hL; have e134 : a.tmps.getD 134 undef = .agg (vc (.num 5 1)).toArray := hL.1; have e136 : a.tmps.getD 136 undef = .agg (vc (.num 5 1)).toArray := hL.2.1; have e131 : a.tmps.getD 131 undef = .bool true := hL.2.2.1; clear hL; refine ⟨true, e131, ?_⟩; rw [if_pos rfl]; refine lands_v (run_eq32 (v := (.num 5 1)) rfl e134 e136) ?_; exact ⟨⟨fun d hd => by injection hd with hd; subst hd; rfl, fun h => by cases h⟩, hS, Below.refl _ _⟩
    · as_aux_lemma =>
        intro vals a W hS hL; have e131 : a.tmps.getD 131 undef = .bool true := hL.1; have e137 : a.tmps.getD 137 undef = .bool true := hL.2.1; clear hL; go_simp; exact ⟨⟨fun d hd => by injection hd with hd; subst hd; rfl, fun h => by cases h⟩, hS, (Below.refl _ _)⟩
    · as_aux_lemma =>
        intro vals a W hS hL; have e138 : a.tmps.getD 138 undef = .bool true := hL.1; clear hL; go_simp; exact ⟨⟨fun d hd => by injection hd with hd; subst hd; rfl, fun h => by cases h⟩, hS, (Below.refl _ _)⟩
    · as_aux_lemma =>
        intro vals a W hS hL; have e139 : a.tmps.getD 139 undef = .bool true := hL.1; clear hL; refine ⟨true, e139, ?_⟩; rw [if_pos rfl]; go_simp; refine (lN_x (w := W) (1)).mono ?_; rintro e W2 ⟨rfl, hb⟩; exact ⟨_, rfl, ⟨fun d hd => by injection hd with hd; subst hd; rfl, fun h => by cases h⟩, hS.call hb, hb⟩
    · as_aux_lemma =>
        intro vals a W hS hL; have e139 : a.tmps.getD 139 undef = .bool true := hL.1; clear hL; refine ⟨true, e139, ?_⟩; rw [if_pos rfl]; go_simp; refine (lS_x (w := W) [120]).mono ?_; rintro e W2 ⟨rfl, hb⟩; exact ⟨_, rfl, ⟨fun d hd => by injection hd with hd; subst hd; rfl, fun h => by cases h⟩, hS.call hb, hb⟩
    · as_aux_lemma =>
        intro vals a W hS hL; have e140 : a.tmps.getD 140 undef = .agg (vc (.num 1 0)).toArray := hL.1; have e141 : a.tmps.getD 141 undef = .agg (vc (.str [120])).toArray := hL.2.1; have e139 : a.tmps.getD 139 undef = .bool true := hL.2.2.1; clear hL; refine ⟨true, e139, ?_⟩; rw [if_pos rfl]; go_simp; refine (kb_6 (HT.out.below hS.bel) (HV.out.below hS.bel)).mono ?_; rintro e W2 ⟨rfl, hb⟩; exact ⟨_, rfl, ⟨fun d hd => by injection hd with hd; subst hd; rfl, fun h => by cases h⟩, hS.call hb, hb⟩
    · as_aux_lemma =>
        intro vals a W hS hL; have e139 : a.tmps.getD 139 undef = .bool true := hL.1; clear hL; refine ⟨true, e139, ?_⟩; rw [if_pos rfl]; go_simp; refine (lS_x (w := W) [49, 120]).mono ?_; rintro e W2 ⟨rfl, hb⟩; exact ⟨_, rfl, ⟨fun d hd => by injection hd with hd; subst hd; rfl, fun h => by cases h⟩, hS.call hb, hb⟩
    · as_aux_lemma =>
        intro vals a W hS hL; have e142 : a.tmps.getD 142 undef = .agg (vc (.str [49, 120])).toArray := hL.1; have e143 : a.tmps.getD 143 undef = .agg (vc (.str [49, 120])).toArray := hL.2.1; have e139 : a.tmps.getD 139 undef = .bool true := hL.2.2.1; clear hL; refine ⟨true, e139, ?_⟩; rw [if_pos rfl]; refine lands_v (run_eq32 (v := (.str [49, 120])) rfl e142 e143) ?_; exact ⟨⟨fun d hd => by injection hd with hd; subst hd; rfl, fun h => by cases h⟩, hS, Below.refl _ _⟩
    · as_aux_lemma =>
        intro vals a W hS hL; have e139 : a.tmps.getD 139 undef = .bool true := hL.1; have e144 : a.tmps.getD 144 undef = .bool true := hL.2.1; clear hL; go_simp; exact ⟨⟨fun d hd => by injection hd with hd; subst hd; rfl, fun h => by cases h⟩, hS, (Below.refl _ _)⟩
    · as_aux_lemma =>
        intro vals a W hS hL; have e145 : a.tmps.getD 145 undef = .bool true := hL.1; clear hL; go_simp; exact ⟨⟨fun d hd => by injection hd with hd; subst hd; rfl, fun h => by cases h⟩, hS, (Below.refl _ _)⟩
    · as_aux_lemma =>
        intro vals a W hS hL; have e146 : a.tmps.getD 146 undef = .bool true := hL.1; clear hL; refine ⟨true, e146, ?_⟩; rw [if_pos rfl]; go_simp; refine (lN_x (w := W) (1)).mono ?_; rintro e W2 ⟨rfl, hb⟩; exact ⟨_, rfl, ⟨fun d hd => by injection hd with hd; subst hd; rfl, fun h => by cases h⟩, hS.call hb, hb⟩
    · as_aux_lemma =>
        intro vals a W hS hL; have e146 : a.tmps.getD 146 undef = .bool true := hL.1; clear hL; refine ⟨true, e146, ?_⟩; rw [if_pos rfl]; go_simp; refine (lS_x (w := W) [120]).mono ?_; rintro e W2 ⟨rfl, hb⟩; exact ⟨_, rfl, ⟨fun d hd => by injection hd with hd; subst hd; rfl, fun h => by cases h⟩, hS.call hb, hb⟩
    · as_aux_lemma =>
        intro vals a W hS hL; have e147 : a.tmps.getD 147 undef = .agg (vc (.num 1 0)).toArray := hL.1; have e148 : a.tmps.getD 148 undef = .agg (vc (.str [120])).toArray := hL.2.1; have e146 : a.tmps.getD 146 undef = .bool true := hL.2.2.1; clear hL; refine ⟨true, e146, ?_⟩; rw [if_pos rfl]; go_simp; refine (kb_9 (HT.out.below hS.bel) (HV.out.below hS.bel)).mono ?_; rintro e W2 ⟨rfl, hb⟩; exact ⟨_, rfl, ⟨fun d hd => by injection hd with hd; subst hd; rfl, fun h => by cases h⟩, hS.call hb, hb⟩
    · as_aux_lemma =>
        intro vals a W hS hL; have e146 : a.tmps.getD 146 undef = .bool true := hL.1; clear hL; refine ⟨true, e146, ?_⟩; rw [if_pos rfl]; refine lands_v (v := .agg (vc (.bool true)).toArray) (w' := W) (by kernel_rfl) ?_; exact ⟨⟨fun d hd => by injection hd with hd; subst hd; rfl, fun h => by cases h⟩, hS, Below.refl _ _⟩
    · as_aux_lemma =>
        intro vals a W hS hL; have e149 : a.tmps.getD 149 undef = .agg (vc (.bool true)).toArray := hL.1; have e150 : a.tmps.getD 150 undef = .agg (vc (.bool true)).toArray := hL.2.1; have e146 : a.tmps.getD 146 undef = .bool true := hL.2.2.1; clear hL; refine ⟨true, e146, ?_⟩; rw [if_pos rfl]; refine lands_v (run_eq32 (v := (.bool true)) rfl e149 e150) ?_; exact ⟨⟨fun d hd => by injection hd with hd; subst hd; rfl, fun h => by cases h⟩, hS, Below.refl _ _⟩
    · as_aux_lemma =>
        intro vals a W hS hL; have e146 : a.tmps.getD 146 undef = .bool true := hL.1; have e151 : a.tmps.getD 151 undef = .bool true := hL.2.1; clear hL; go_simp; exact ⟨⟨fun d hd => by injection hd with hd; subst hd; rfl, fun h => by cases h⟩, hS, (Below.refl _ _)⟩
    · as_aux_lemma =>
        intro vals a W hS hL; have e152 : a.tmps.getD 152 undef = .bool true := hL.1; clear hL; go_simp; exact ⟨⟨fun d hd => by injection hd with hd; subst hd; rfl, fun h => by cases h⟩, hS, (Below.refl _ _)⟩
    · as_aux_lemma =>
        intro vals a W hS hL; have e153 : a.tmps.getD 153 undef = .bool true := hL.1; clear hL; refine ⟨true, e153, ?_⟩; rw [if_pos rfl]; go_simp; refine (lN_x (w := W) (1)).mono ?_; rintro e W2 ⟨rfl, hb⟩; exact ⟨_, rfl, ⟨fun d hd => by injection hd with hd; subst hd; rfl, fun h => by cases h⟩, hS.call hb, hb⟩
    · as_aux_lemma =>
        intro vals a W hS hL; have e153 : a.tmps.getD 153 undef = .bool true := hL.1; clear hL; refine ⟨true, e153, ?_⟩; rw [if_pos rfl]; refine lands_v (v := .agg (vc .blank).toArray) (w' := W) (by kernel_rfl) ?_; exact ⟨⟨fun d hd => by injection hd with hd; subst hd; rfl, fun h => by cases h⟩, hS, Below.refl _ _⟩
    · as_aux_lemma =>
        intro vals a W hS hL; have e154 : a.tmps.getD 154 undef = .agg (vc (.num 1 0)).toArray := hL.1; have e155 : a.tmps.getD 155 undef = .agg (vc .blank).toArray := hL.2.1; have e153 : a.tmps.getD 153 undef = .bool true := hL.2.2.1; clear hL; refine ⟨true, e153, ?_⟩; rw [if_pos rfl]; go_simp; refine (kb_4 (HT.out.below hS.bel) (HV.out.below hS.bel)).mono ?_; rintro e W2 ⟨rfl, hb⟩; exact ⟨_, rfl, ⟨fun d hd => by injection hd with hd; subst hd; rfl, fun h => by cases h⟩, hS.call hb, hb⟩
    · as_aux_lemma =>
        intro vals a W hS hL; have e153 : a.tmps.getD 153 undef = .bool true := hL.1; clear hL; refine ⟨true, e153, ?_⟩; rw [if_pos rfl]; go_simp; refine (fFault (w := W) 7).mono ?_; rintro e W2 ⟨rfl, hb⟩; exact ⟨_, rfl, ⟨fun d hd => by injection hd with hd; subst hd; rfl, fun h => by cases h⟩, hS.call hb, hb⟩
    · as_aux_lemma =>
        intro vals a W hS hL; have e156 : a.tmps.getD 156 undef = .agg (vc (.err 7)).toArray := hL.1; have e157 : a.tmps.getD 157 undef = .agg (vc (.err 7)).toArray := hL.2.1; have e153 : a.tmps.getD 153 undef = .bool true := hL.2.2.1; clear hL; refine ⟨true, e153, ?_⟩; rw [if_pos rfl]; refine lands_v (run_eq32 (v := (.err 7)) rfl e156 e157) ?_; exact ⟨⟨fun d hd => by injection hd with hd; subst hd; rfl, fun h => by cases h⟩, hS, Below.refl _ _⟩
    · as_aux_lemma =>
        intro vals a W hS hL; have e153 : a.tmps.getD 153 undef = .bool true := hL.1; have e158 : a.tmps.getD 158 undef = .bool true := hL.2.1; clear hL; go_simp; exact ⟨⟨fun d hd => by injection hd with hd; subst hd; rfl, fun h => by cases h⟩, hS, (Below.refl _ _)⟩
    · as_aux_lemma =>
        intro vals a W hS hL; have e159 : a.tmps.getD 159 undef = .bool true := hL.1; clear hL; go_simp; exact ⟨⟨fun d hd => by injection hd with hd; subst hd; rfl, fun h => by cases h⟩, hS, (Below.refl _ _)⟩
    · as_aux_lemma =>
        intro vals a W hS hL; have e160 : a.tmps.getD 160 undef = .bool true := hL.1; clear hL; refine ⟨true, e160, ?_⟩; rw [if_pos rfl]; go_simp; refine (lN_x (w := W) (5)).mono ?_; rintro e W2 ⟨rfl, hb⟩; exact ⟨_, rfl, ⟨fun d hd => by injection hd with hd; subst hd; rfl, fun h => by cases h⟩, hS.call hb, hb⟩
    · as_aux_lemma =>
        intro vals a W hS hL; have e161 : a.tmps.getD 161 undef = .agg (vc (.num 5 0)).toArray := hL.1; have e160 : a.tmps.getD 160 undef = .bool true := hL.2.1; clear hL; refine ⟨true, e160, ?_⟩; rw [if_pos rfl]; go_simp; refine (ku_3 (w := W)).mono ?_; rintro e W2 ⟨rfl, hb⟩; exact ⟨_, rfl, ⟨fun d hd => by injection hd with hd; subst hd; rfl, fun h => by cases h⟩, hS.call hb, hb⟩
    · as_aux_lemma =>
        intro vals a W hS hL; have e160 : a.tmps.getD 160 undef = .bool true := hL.1; clear hL; refine ⟨true, e160, ?_⟩; rw [if_pos rfl]; refine lands_v (v := .agg (dc 5 (2 : Nat)).toArray) (w' := W) (by kernel_rfl) ?_; exact ⟨⟨fun d hd => by injection hd with hd; subst hd; rfl, fun h => by cases h⟩, hS, Below.refl _ _⟩
    · as_aux_lemma =>
        intro vals a W hS hL; have e163 : a.tmps.getD 163 undef = .agg (dc 5 (2 : Nat)).toArray := hL.1; have e160 : a.tmps.getD 160 undef = .bool true := hL.2.1; clear hL; refine ⟨true, e160, ?_⟩; rw [if_pos rfl]; refine lands_v (run_bn rfl e163) ?_; exact ⟨⟨fun d hd => by injection hd with hd; subst hd; rfl, fun h => by cases h⟩, hS, Below.refl _ _⟩
    · as_aux_lemma =>
        intro vals a W hS hL; have e162 : a.tmps.getD 162 undef = .agg (vc (.num 5 2)).toArray := hL.1; have e164 : a.tmps.getD 164 undef = .agg (vc (.num 5 2)).toArray := hL.2.1; have e160 : a.tmps.getD 160 undef = .bool true := hL.2.2.1; clear hL; refine ⟨true, e160, ?_⟩; rw [if_pos rfl]; refine lands_v (run_eq32 (v := (.num 5 2)) rfl e162 e164) ?_; exact ⟨⟨fun d hd => by injection hd with hd; subst hd; rfl, fun h => by cases h⟩, hS, Below.refl _ _⟩
    · as_aux_lemma =>
        intro vals a W hS hL; have e160 : a.tmps.getD 160 undef = .bool true := hL.1; have e165 : a.tmps.getD 165 undef = .bool true := hL.2.1; clear hL; go_simp; exact ⟨⟨fun d hd => by injection hd with hd; subst hd; rfl, fun h => by cases h⟩, hS, (Below.refl _ _)⟩
    · as_aux_lemma =>
        intro vals a W hS hL; have e166 : a.tmps.getD 166 undef = .bool true := hL.1; clear hL; go_simp; exact ⟨⟨fun d hd => by injection hd with hd; subst hd; rfl, fun h => by cases h⟩, hS, (Below.refl _ _)⟩
    · as_aux_lemma =>
        intro vals a W hS hL; have e167 : a.tmps.getD 167 undef = .bool true := hL.1; clear hL; refine ⟨true, e167, ?_⟩; rw [if_pos rfl]; go_simp; refine (lS_x (w := W) [120]).mono ?_; rintro e W2 ⟨rfl, hb⟩; exact ⟨_, rfl, ⟨fun d hd => by injection hd with hd; subst hd; rfl, fun h => by cases h⟩, hS.call hb, hb⟩
    · as_aux_lemma =>
        intro vals a W hS hL; have e168 : a.tmps.getD 168 undef = .agg (vc (.str [120])).toArray := hL.1; have e167 : a.tmps.getD 167 undef = .bool true := hL.2.1; clear hL; refine ⟨true, e167, ?_⟩; rw [if_pos rfl]; go_simp; refine (ku_2 (w := W)).mono ?_; rintro e W2 ⟨rfl, hb⟩; exact ⟨_, rfl, ⟨fun d hd => by injection hd with hd; subst hd; rfl, fun h => by cases h⟩, hS.call hb, hb⟩
    · as_aux_lemma =>
        intro vals a W hS hL; have e167 : a.tmps.getD 167 undef = .bool true := hL.1; clear hL; refine ⟨true, e167, ?_⟩; rw [if_pos rfl]; go_simp; refine (lS_x (w := W) [120]).mono ?_; rintro e W2 ⟨rfl, hb⟩; exact ⟨_, rfl, ⟨fun d hd => by injection hd with hd; subst hd; rfl, fun h => by cases h⟩, hS.call hb, hb⟩
    · as_aux_lemma =>
        intro vals a W hS hL; have e169 : a.tmps.getD 169 undef = .agg (vc (.str [120])).toArray := hL.1; have e170 : a.tmps.getD 170 undef = .agg (vc (.str [120])).toArray := hL.2.1; have e167 : a.tmps.getD 167 undef = .bool true := hL.2.2.1; clear hL; refine ⟨true, e167, ?_⟩; rw [if_pos rfl]; refine lands_v (run_eq32 (v := (.str [120])) rfl e169 e170) ?_; exact ⟨⟨fun d hd => by injection hd with hd; subst hd; rfl, fun h => by cases h⟩, hS, Below.refl _ _⟩
    · as_aux_lemma =>
        intro vals a W hS hL; have e167 : a.tmps.getD 167 undef = .bool true := hL.1; have e171 : a.tmps.getD 171 undef = .bool true := hL.2.1; clear hL; go_simp; exact ⟨⟨fun d hd => by injection hd with hd; subst hd; rfl, fun h => by cases h⟩, hS, (Below.refl _ _)⟩
    · as_aux_lemma =>
        intro vals a W hS hL; have e172 : a.tmps.getD 172 undef = .bool true := hL.1; clear hL; go_simp; exact ⟨⟨fun d hd => by injection hd with hd; subst hd; rfl, fun h => by cases h⟩, hS, (Below.refl _ _)⟩
    · as_aux_lemma =>
        intro vals a W hS hL; have e173 : a.tmps.getD 173 undef = .bool true := hL.1; clear hL; refine ⟨true, e173, ?_⟩; rw [if_pos rfl]; go_simp; refine (lN_x (w := W) (5)).mono ?_; rintro e W2 ⟨rfl, hb⟩; exact ⟨_, rfl, ⟨fun d hd => by injection hd with hd; subst hd; rfl, fun h => by cases h⟩, hS.call hb, hb⟩
    · as_aux_lemma =>
        intro vals a W hS hL; have e174 : a.tmps.getD 174 undef = .agg (vc (.num 5 0)).toArray := hL.1; have e173 : a.tmps.getD 173 undef = .bool true := hL.2.1; clear hL; refine ⟨true, e173, ?_⟩; rw [if_pos rfl]; go_simp; refine (ku_4 (w := W)).mono ?_; rintro e W2 ⟨rfl, hb⟩; exact ⟨_, rfl, ⟨fun d hd => by injection hd with hd; subst hd; rfl, fun h => by cases h⟩, hS.call hb, hb⟩
    · as_aux_lemma =>
        intro vals a W hS hL; have e173 : a.tmps.getD 173 undef = .bool true := hL.1; clear hL; refine ⟨true, e173, ?_⟩; rw [if_pos rfl]; go_simp; refine (fFault (w := W) 15).mono ?_; rintro e W2 ⟨rfl, hb⟩; exact ⟨_, rfl, ⟨fun d hd => by injection hd with hd; subst hd; rfl, fun h => by cases h⟩, hS.call hb, hb⟩
    · as_aux_lemma =>
        intro vals a W hS hL; have e175 : a.tmps.getD 175 undef = .agg (vc (.err 15)).toArray := hL.1; have e176 : a.tmps.getD 176 undef = .agg (vc (.err 15)).toArray := hL.2.1; have e173 : a.tmps.getD 173 undef = .bool true := hL.2.2.1; clear hL; refine ⟨true, e173, ?_⟩; rw [if_pos rfl]; refine lands_v (run_eq32 (v := (.err 15)) rfl e175 e176) ?_; exact ⟨⟨fun d hd => by injection hd with hd; subst hd; rfl, fun h => by cases h⟩, hS, Below.refl _ _⟩
    · as_aux_lemma =>
        intro vals a W hS hL; have e173 : a.tmps.getD 173 undef = .bool true := hL.1; have e177 : a.tmps.getD 177 undef = .bool true := hL.2.1; clear hL; go_simp; exact ⟨⟨fun d hd => by injection hd with hd; subst hd; rfl, fun h => by cases h⟩, hS, (Below.refl _ _)⟩
    · as_aux_lemma =>
        intro vals a W hS hL; have e178 : a.tmps.getD 178 undef = .bool true := hL.1; clear hL; go_simp; exact ⟨⟨fun d hd => by injection hd with hd; subst hd; rfl, fun h => by cases h⟩, hS, (Below.refl _ _)⟩
  · intro a W vals hd hsz hT hF hv hP hS; have HB : Hid (BX w [(gA, 55, ac true (some ⟨q1, 0, none⟩) 4 4), (q1, 32, kArea.flatMap vc)] W) := Lib.hid hS; have e0 : a.tmps.getD 0 undef = .bool true := hT 0 (by simp); clear hT hF hP hS
    repeat' (first | go_values | go_skip | go_guarded | go_step | go_upon)
    refine bodyPost_ret (results_tmp rfl _ _ _) hd ⟨?_, HB.out.bel⟩; rw [e0]
end Go.Proofs.YtngkolcpbgibcaaGreatDoor
