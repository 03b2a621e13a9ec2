/- fun's choices by their contracts. Condition: texts are not too long. -/
import Derived.Test.YtngkolcpbgibcaaGreatDoorF3
set_option linter.unusedVariables false
set_option linter.unusedSimpArgs false
namespace Go.Proofs.YtngkolcpbgibcaaGreatDoor
open Go.RowKit
section
variable {o : Oper} {a : Act} {w W : World} {K : Act → World → Prop} {Q : Exit → Act → World → Prop} {q : Addr} {u : Value} {v : VX} {b : Bool} {A : Option Addr} {n c : Nat}
theorem ldm_v (v : VX) (x : Operand) (ho : o.op = .load 32 x) (hx : a.eval x = .pointer (some q)) (hb : ∀ (j : Nat) (u : Value), (vc v)[j]? = some u → W.cell? (q.add j) = some u) (h : K (a.put o.dst (.agg (vc v).toArray)) W) : o.wp Tryz.prog a W K Q :=
  ldm_g rtV x ho hx hb h
theorem ldm_a (b : Bool) (A : Option Addr) (n c : Nat) (x : Operand) (ho : o.op = .load 55 x) (hx : a.eval x = .pointer (some q)) (hb : ∀ (j : Nat) (u : Value), (ac b A n c)[j]? = some u → W.cell? (q.add j) = some u) (h : K (a.put o.dst (.agg (ac b A n c).toArray)) W) : o.wp Tryz.prog a W K Q :=
  ldm_g rtArg x ho hx hb h
theorem lfm_vals (x : Operand) (ho : o.op = .load 53 x) (hx : a.eval x = .pointer (some q)) (c : W.cell? q = some u) (h : K (a.put o.dst u) W) : o.wp Tryz.prog a W K Q := by
  unfold Oper.wp execOp; rw [ho]; simp only [hx]; clear ho hx; go_simp; exact h
theorem lfm_int (x : Operand) (ho : o.op = .load 3 x) (hx : a.eval x = .pointer (some q)) (c : W.cell? q = some u) (h : K (a.put o.dst u) W) : o.wp Tryz.prog a W K Q := by
  unfold Oper.wp execOp; rw [ho]; simp only [hx]; clear ho hx; go_simp; exact h
theorem lfm_bool (x : Operand) (ho : o.op = .load 4 x) (hx : a.eval x = .pointer (some q)) (c : W.cell? q = some u) (h : K (a.put o.dst u) W) : o.wp Tryz.prog a W K Q := by
  unfold Oper.wp execOp; rw [ho]; simp only [hx]; clear ho hx; go_simp; exact h
end
structure ArgAt (w : World) (q : Addr) (x : Bool × List VX) (A : Option Addr) (c : Nat) : Prop where
  lt : q.block < w.heap.size
  le : x.2.length ≤ c
  row : RowF valF w (· < w.heap.size) A x.2.length x.2
  cell : ∀ (j : Nat) (u : Value), (ac x.1 A x.2.length c)[j]? = some u → w.cell? (q.add j) = some u
theorem ArgAt.below {w W : World} {q : Addr} {x : Bool × List VX} {A : Option Addr} {c : Nat} (h : ArgAt w q x A c) (hb : Below w.heap.size w W) : ArgAt W q x A c :=
  ⟨Nat.lt_of_lt_of_le h.lt hb.size, h.le, (h.row.below hb (Nat.le_refl _)).mono hb.size, fun j u hu => (hb.cell (by rw [add_block]; exact h.lt)).trans (h.cell j u hu)⟩
theorem valx_at {w : World} {A : Option Addr} {n i : Nat} {l : List VX} {x : VX} (h : RowF valF w (· < w.heap.size) A n l) (hi : l[i]? = some x) :
    ∃ a, A = some a ∧ ∀ W, Below w.heap.size w W → ∀ (j : Nat) (u : Value), (vc x)[j]? = some u → W.cell? ((a.add (i * 6)).add j) = some u := by
  obtain ⟨a, rfl, hb, hc⟩ := vals_at h hi; exact ⟨a, rfl, fun W hW j u hu => (hW.cell (by rw [add_block, add_block]; exact hb)).trans (hc j u hu)⟩
def onlyX (x : Bool × List VX) : VX := if oneB x.1 x.2.length = true then x.2.headD .blank else .err 15
set_option maxRecDepth 20000 in
set_option maxHeartbeats 4000000 in
theorem only_any {w : World} (x : Bool × List VX) {A : Option Addr} {c : Nat} (h : RowF valF w (· < w.heap.size) A x.2.length x.2) :
    Calls Tryz.prog 116 #[.agg (ac x.1 A x.2.length c).toArray] w fun e W => e = .returned (.agg (vc (onlyX x)).toArray) ∧ Below w.heap.size w W := by
  have HB := Lib.hid (BX.start w); have HO : Hid (∀ W : World, Calls Tryz.prog 102 #[.agg (ac x.1 A x.2.length c).toArray] W fun e W' => e = .returned (.bool (oneB x.1 x.2.length)) ∧ Below W.heap.size W W') := Lib.hid fun W => isOne_any _ _ _ _; unfold onlyX
  by_cases ho : oneB x.1 x.2.length = true
  · obtain ⟨b, l⟩ := x; obtain ⟨hb, hl⟩ : b = false ∧ l.length = 1 := by simpa [oneB] using ho
    obtain ⟨y, rfl⟩ : ∃ y, l = [y] := by
      match l, hl with
      | [y], _ => exact ⟨y, rfl⟩
    obtain ⟨aa, rfl, hc⟩ := valx_at (i := 0) h rfl; rw [if_pos ho]; subst hb; simp only [ho] at HO; have HC := Lib.hid hc; clear h ho hl hc
    show Calls _ _ #[.agg (ac false (some aa) 1 c).toArray] _ fun e W => e = .returned (.agg (vc y).toArray) ∧ Below w.heap.size w W
    go_enter Tryz.func116, Tryz.ntmps116
    repeat' (first | ((with_reducible show Oper.wp _ _ _ _ _ _); (first | ((first | refine al_v HB rfl ?_ | refine bx_a HB _ rfl rfl ?_); clear HB; (first | (have _t : Nat := g0; clear _t; intro g1 W HB) | intro g0 W HB); go_simp) | (refine ld_a 1 HB rfl _ rfl rfl ?_; go_simp))) | go_values | go_skip | go_guarded | go_step | go_upon)
    refine (HO.out _).mono ?_; rintro e W1 ⟨rfl, hb⟩; have HB := Lib.hid (HB.out.call hb); clear hb; dsimp only
    repeat' (first | ((with_reducible show Oper.wp _ _ _ _ _ _); (first | (refine lf_vals 1 HB rfl _ rfl rfl rfl ?_; go_simp) | refine stop_ld (ty := 32) _ rfl ?_)) | go_values | go_skip | go_guarded | go_step | go_upon)
    refine Lib.hid ?_; refine ldm_v y _ rfl rfl (HC.out _ HB.out.bel) ?_; go_simp
    repeat' (first | ((with_reducible show Oper.wp _ _ _ _ _ _); refine st_v 0 HB rfl _ _ rfl rfl rfl ?_; clear HB; intro W HB; dsimp only [List.set] at HB; go_simp) | go_values | go_skip | go_guarded | go_step | go_upon)
    exact bodyPost_ret (res_v rfl HB (i := 0) rfl rfl) rfl ⟨rfl, HB.out.bel⟩
  · rw [if_neg ho]; have hf : oneB x.1 x.2.length = false := by simpa using ho
    rw [hf] at HO; clear ho h hf; go_enter Tryz.func116, Tryz.ntmps116
    repeat' (first | ((with_reducible show Oper.wp _ _ _ _ _ _); (first | ((first | refine al_v HB rfl ?_ | refine bx_a HB _ rfl rfl ?_); clear HB; (first | (have _t : Nat := g0; clear _t; intro g1 W HB) | intro g0 W HB); go_simp) | (refine ld_a 1 HB rfl _ rfl rfl ?_; go_simp))) | go_values | go_skip | go_guarded | go_step | go_upon)
    refine (HO.out _).mono ?_; rintro e W1 ⟨rfl, hb⟩; have HB := Lib.hid (HB.out.call hb); clear hb; dsimp only
    repeat' (first | go_values | go_skip | go_guarded | go_step | go_upon)
    refine (fFault 15).mono ?_; rintro e W1 ⟨rfl, hb⟩; have HB := Lib.hid (HB.out.call hb); clear hb; dsimp only
    repeat' (first | ((with_reducible show Oper.wp _ _ _ _ _ _); refine st_v 0 HB rfl _ _ rfl rfl rfl ?_; clear HB; intro W HB; dsimp only [List.set] at HB; go_simp) | go_values | go_skip | go_guarded | go_step | go_upon)
    exact bodyPost_ret (res_v rfl HB (i := 0) rfl rfl) rfl ⟨rfl, HB.out.bel⟩
theorem args_all {w : World} {A : Option Addr} {n : Nat} {args : List (Bool × List VX)} (h : RowF argF w (· < w.heap.size) A n args) (hn : 0 < n) :
    ∃ a, A = some a ∧ ∀ (i : Nat) (x : Bool × List VX), args[i]? = some x → ∃ A1 c1, ArgAt w (a.add (i * 2)) x A1 c1 := by
  obtain ⟨a, rfl, hb, hc⟩ := h.at_ hn; refine ⟨a, rfl, fun i x hi => ?_⟩; obtain ⟨cs, ⟨A1, c1, rfl, h1, h2⟩, hcell⟩ := hc i x hi; exact ⟨A1, c1, by rw [add_block]; exact hb, h1, h2, fun j u hu => by rw [add_add]; exact hcell j u hu⟩
theorem ArgAt.one {w : World} {q : Addr} {b : Bool} {y : VX} {A : Option Addr} {c : Nat} (h : ArgAt w q (b, [y]) A c) :
    ∃ a, A = some a ∧ (∀ W, Below w.heap.size w W → ∀ (j : Nat) (u : Value), (ac b (some a) 1 c)[j]? = some u → W.cell? (q.add j) = some u) ∧ ∀ W, Below w.heap.size w W → ∀ (j : Nat) (u : Value), (vc y)[j]? = some u → W.cell? ((a.add (0 * 6)).add j) = some u := by
  obtain ⟨a, rfl, hc⟩ := valx_at (i := 0) h.row rfl; exact ⟨a, rfl, fun W hW j u hu => (h.below hW).cell j u hu, hc⟩
def eitherX (x : VX) (r : List (Bool × List VX)) : VX :=
  match truX x with
  | .no y => y
  | .ok true => onlyX (r.headD (true, []))
  | .ok false => match r with
    | [_, b] => onlyX b
    | _ => .bool false
set_option maxRecDepth 20000 in
set_option maxHeartbeats 4000000 in
theorem either_any {w : World} {x : VX} {r : List (Bool × List VX)} {A : Option Addr} {c : Nat} (h : RowF argF w (· < w.heap.size) A ((false, [x]) :: r).length ((false, [x]) :: r)) (hr : r.length = 1 ∨ r.length = 2) :
    Calls Tryz.prog 46 #[.slice A ((false, [x]) :: r).length c] w fun e W => e = .returned (.agg (vc (eitherX x r)).toArray) ∧ Below w.heap.size w W := by
  have HB := Lib.hid (BX.start w); obtain ⟨aa, rfl, hall⟩ := args_all h (by simp); obtain ⟨A1, c1, h0⟩ := hall 0 _ rfl; obtain ⟨a1, rfl, h0c, h0v⟩ := h0.one; have H0 := Lib.hid (And.intro h0c h0v); clear h0 h0c h0v h; unfold eitherX
  cases ht : truX x with
  | no y =>
    have HT := Lib.hid (truth_not ht); clear ht hall; have hl : ((false, [x]) :: r).length = r.length + 1 := rfl; rw [hl]; clear hl; go_enter Tryz.func46, Tryz.ntmps46
    repeat' (first | ((with_reducible show Oper.wp _ _ _ _ _ _); (first | (refine al_v HB rfl ?_; clear HB; intro g0 W HB; go_simp) | refine stop_ld (ty := 53) _ rfl ?_)) | go_values | go_skip | go_guarded | go_step | go_upon)
    refine Lib.hid ?_; refine lfm_vals _ rfl rfl (H0.out.1 _ HB.out.bel 1 _ rfl) ?_; go_simp
    repeat' (first | ((with_reducible show Oper.wp _ _ _ _ _ _); refine stop_ld (ty := 32) _ rfl ?_) | go_values | go_skip | go_guarded | go_step | go_upon)
    refine Lib.hid ?_; refine ldm_v x _ rfl rfl (H0.out.2 _ HB.out.bel) ?_; go_simp
    repeat' (first | go_values | go_skip | go_guarded | go_step | go_upon)
    refine (HT.out _).mono ?_; rintro e W1 ⟨rfl, hb⟩; have HB := Lib.hid (HB.out.call hb); clear hb; dsimp only
    repeat' (first | ((with_reducible show Oper.wp _ _ _ _ _ _); (first | (refine al_v HB rfl ?_; clear HB; intro g1 W HB; go_simp) | (refine ld_v 0 HB rfl _ rfl rfl ?_; go_simp) | ((first | refine st_v 0 HB rfl _ _ rfl rfl rfl ?_ | refine st_v 1 HB rfl _ _ rfl rfl rfl ?_); clear HB; intro W HB; dsimp only [List.set] at HB; go_simp))) | go_values | go_skip | go_guarded | go_step | go_upon)
    exact bodyPost_ret (res_v rfl HB (i := 1) rfl rfl) rfl ⟨rfl, HB.out.bel⟩
  | ok b =>
    have HT := Lib.hid (truth_yes_ ht); clear ht
    cases b with
    | true =>
      obtain ⟨y, r', rfl⟩ : ∃ y r', r = y :: r' := by
        match r, hr with
        | y :: r', _ => exact ⟨y, r', rfl⟩
      obtain ⟨A2, c2, h1⟩ := hall 1 y rfl; have H1 := Lib.hid h1; clear hall h1 hr
      show Calls _ _ #[.slice (some aa) (r'.length + 1 + 1) c] _ fun e W => e = .returned (.agg (vc (onlyX y)).toArray) ∧ Below w.heap.size w W
      go_enter Tryz.func46, Tryz.ntmps46
      repeat' (first | ((with_reducible show Oper.wp _ _ _ _ _ _); (first | (refine al_v HB rfl ?_; clear HB; intro g0 W HB; go_simp) | refine stop_ld (ty := 53) _ rfl ?_)) | go_values | go_skip | go_guarded | go_step | go_upon)
      refine Lib.hid ?_; refine lfm_vals _ rfl rfl (H0.out.1 _ HB.out.bel 1 _ rfl) ?_; go_simp
      repeat' (first | ((with_reducible show Oper.wp _ _ _ _ _ _); refine stop_ld (ty := 32) _ rfl ?_) | go_values | go_skip | go_guarded | go_step | go_upon)
      refine Lib.hid ?_; refine ldm_v x _ rfl rfl (H0.out.2 _ HB.out.bel) ?_; go_simp
      repeat' (first | go_values | go_skip | go_guarded | go_step | go_upon)
      refine (HT.out _).mono ?_; rintro e W1 ⟨rfl, hb⟩; have HB := Lib.hid (HB.out.call hb); clear hb; dsimp only
      repeat' (first | ((with_reducible show Oper.wp _ _ _ _ _ _); (first | (refine al_v HB rfl ?_; clear HB; intro g1 W HB; go_simp) | (refine st_v 0 HB rfl _ _ rfl rfl rfl ?_; clear HB; intro W HB; dsimp only [List.set] at HB; go_simp) | refine stop_ld (ty := 55) _ rfl ?_)) | go_values | go_skip | go_guarded | go_step | go_upon)
      refine Lib.hid ?_; refine ldm_a y.1 A2 y.2.length c2 _ rfl rfl (H1.out.below HB.out.bel).cell ?_; go_simp
      repeat' (first | go_values | go_skip | go_guarded | go_step | go_upon)
      refine (only_any y (H1.out.below HB.out.bel).row).mono ?_; rintro e W1 ⟨rfl, hb⟩; have HB := Lib.hid (HB.out.call hb); clear hb; dsimp only
      repeat' (first | ((with_reducible show Oper.wp _ _ _ _ _ _); refine st_v 1 HB rfl _ _ rfl rfl rfl ?_; clear HB; intro W HB; dsimp only [List.set] at HB; go_simp) | go_values | go_skip | go_guarded | go_step | go_upon)
      exact bodyPost_ret (res_v rfl HB (i := 1) rfl rfl) rfl ⟨rfl, HB.out.bel⟩
    | false =>
      match r, hr with
      | [y], _ =>
        clear hall
        show Calls _ _ #[.slice (some aa) 2 c] _ fun e W => e = .returned (.agg (vc (.bool false)).toArray) ∧ Below w.heap.size w W
        go_enter Tryz.func46, Tryz.ntmps46
        repeat' (first | ((with_reducible show Oper.wp _ _ _ _ _ _); (first | (refine al_v HB rfl ?_; clear HB; intro g0 W HB; go_simp) | refine stop_ld (ty := 53) _ rfl ?_)) | go_values | go_skip | go_guarded | go_step | go_upon)
        refine Lib.hid ?_; refine lfm_vals _ rfl rfl (H0.out.1 _ HB.out.bel 1 _ rfl) ?_; go_simp
        repeat' (first | ((with_reducible show Oper.wp _ _ _ _ _ _); refine stop_ld (ty := 32) _ rfl ?_) | go_values | go_skip | go_guarded | go_step | go_upon)
        refine Lib.hid ?_; refine ldm_v x _ rfl rfl (H0.out.2 _ HB.out.bel) ?_; go_simp
        repeat' (first | go_values | go_skip | go_guarded | go_step | go_upon)
        refine (HT.out _).mono ?_; rintro e W1 ⟨rfl, hb⟩; have HB := Lib.hid (HB.out.call hb); clear hb; dsimp only
        repeat' (first | ((with_reducible show Oper.wp _ _ _ _ _ _); (first | (refine al_v HB rfl ?_; clear HB; intro g1 W HB; go_simp) | (refine st_v 0 HB rfl _ _ rfl rfl rfl ?_; clear HB; intro W HB; dsimp only [List.set] at HB; go_simp))) | go_values | go_skip | go_guarded | go_step | go_upon)
        refine (fTruth_any false).mono ?_; rintro e W1 ⟨rfl, hb⟩; have HB := Lib.hid (HB.out.call hb); clear hb; dsimp only
        repeat' (first | ((with_reducible show Oper.wp _ _ _ _ _ _); refine st_v 1 HB rfl _ _ rfl rfl rfl ?_; clear HB; intro W HB; dsimp only [List.set] at HB; go_simp) | go_values | go_skip | go_guarded | go_step | go_upon)
        exact bodyPost_ret (res_v rfl HB (i := 1) rfl rfl) rfl ⟨rfl, HB.out.bel⟩
      | [y, z], _ =>
        obtain ⟨A2, c2, h1⟩ := hall 2 z rfl; have H1 := Lib.hid h1; clear hall h1
        show Calls _ _ #[.slice (some aa) 3 c] _ fun e W => e = .returned (.agg (vc (onlyX z)).toArray) ∧ Below w.heap.size w W
        go_enter Tryz.func46, Tryz.ntmps46
        repeat' (first | ((with_reducible show Oper.wp _ _ _ _ _ _); (first | (refine al_v HB rfl ?_; clear HB; intro g0 W HB; go_simp) | refine stop_ld (ty := 53) _ rfl ?_)) | go_values | go_skip | go_guarded | go_step | go_upon)
        refine Lib.hid ?_; refine lfm_vals _ rfl rfl (H0.out.1 _ HB.out.bel 1 _ rfl) ?_; go_simp
        repeat' (first | ((with_reducible show Oper.wp _ _ _ _ _ _); refine stop_ld (ty := 32) _ rfl ?_) | go_values | go_skip | go_guarded | go_step | go_upon)
        refine Lib.hid ?_; refine ldm_v x _ rfl rfl (H0.out.2 _ HB.out.bel) ?_; go_simp
        repeat' (first | go_values | go_skip | go_guarded | go_step | go_upon)
        refine (HT.out _).mono ?_; rintro e W1 ⟨rfl, hb⟩; have HB := Lib.hid (HB.out.call hb); clear hb; dsimp only
        repeat' (first | ((with_reducible show Oper.wp _ _ _ _ _ _); (first | (refine al_v HB rfl ?_; clear HB; intro g1 W HB; go_simp) | (refine st_v 0 HB rfl _ _ rfl rfl rfl ?_; clear HB; intro W HB; dsimp only [List.set] at HB; go_simp) | refine stop_ld (ty := 55) _ rfl ?_)) | go_values | go_skip | go_guarded | go_step | go_upon)
        refine Lib.hid ?_; refine ldm_a z.1 A2 z.2.length c2 _ rfl rfl (H1.out.below HB.out.bel).cell ?_; go_simp
        repeat' (first | go_values | go_skip | go_guarded | go_step | go_upon)
        refine (only_any z (H1.out.below HB.out.bel).row).mono ?_; rintro e W1 ⟨rfl, hb⟩; have HB := Lib.hid (HB.out.call hb); clear hb; dsimp only
        repeat' (first | ((with_reducible show Oper.wp _ _ _ _ _ _); refine st_v 1 HB rfl _ _ rfl rfl rfl ?_; clear HB; intro W HB; dsimp only [List.set] at HB; go_simp) | go_values | go_skip | go_guarded | go_step | go_upon)
        exact bodyPost_ret (res_v rfl HB (i := 1) rfl rfl) rfl ⟨rfl, HB.out.bel⟩
end Go.Proofs.YtngkolcpbgibcaaGreatDoor
