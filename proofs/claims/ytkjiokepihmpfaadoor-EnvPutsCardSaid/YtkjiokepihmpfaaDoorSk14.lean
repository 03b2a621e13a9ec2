/- env.isPlace, env.seek, by their contracts. A row in order. -/
import Derived.Test.YtkjiokepihmpfaaDoorLs14
import Derived.Test.YtkjiokepihmpfaaDoorEq14
set_option linter.unusedVariables false
set_option linter.unusedSimpArgs false
namespace Go.Proofs.YtkjiokepihmpfaaDoor
open Go.RowKit

set_option maxRecDepth 20000 in
set_option maxHeartbeats 4000000 in
theorem isPl_any {w : World} (p : Pl) (n : Int) : Calls Tryd.prog 26 #[.agg (plc p).toArray, .int .i64 n] w fun e W => e = .returned (.bool (gdP p n)) ∧ Below w.heap.size w W := by
  have HV := Lib.hid (show gdP p n = (decide (0 ≤ p.s ∧ p.s < n) && gdB p.r p.c) from rfl)
  by_cases h0 : 0 ≤ p.s
  · by_cases h1 : p.s < n
    · have hv : gdP p n = gdB p.r p.c := by rw [HV.out, decide_eq_true ⟨h0, h1⟩, Bool.true_and]
      rw [hv]
      clear hv
      have h0' : p.s ≥ 0 := h0
      obtain ⟨V, hV⟩ : ∃ V, gdB p.r p.c = V := ⟨_, rfl⟩
      have HG := Lib.hid (fun W : World => good_any (w := W) p.r p.c)
      rw [hV] at HG ⊢
      clear hV
      have HB : Hid (BX w [] w) := Lib.hid (BX.start w)
      go_enter Tryd.func26, Tryd.ntmps26
      repeat' (first | ((with_reducible show Oper.wp _ _ _ _ _ _); (first | (with_reducible refine is_bx 40 _ rfl ?_; refine bx_pl HB _ rfl rfl ?_) | (with_reducible refine is_bx 32 _ rfl ?_; refine bx_va HB _ rfl rfl ?_) | (with_reducible refine is_bx 28 _ rfl ?_; refine bx_en HB _ rfl rfl ?_) | (with_reducible refine is_bx 44 _ rfl ?_; refine bx_sl HB _ rfl rfl ?_)); clear HB; (first | (have _t : Nat := g10; clear _t; intro g11 W HB) | (have _t : Nat := g9; clear _t; intro g10 W HB) | (have _t : Nat := g8; clear _t; intro g9 W HB) | (have _t : Nat := g7; clear _t; intro g8 W HB) | (have _t : Nat := g6; clear _t; intro g7 W HB) | (have _t : Nat := g5; clear _t; intro g6 W HB) | (have _t : Nat := g4; clear _t; intro g5 W HB) | (have _t : Nat := g3; clear _t; intro g4 W HB) | (have _t : Nat := g2; clear _t; intro g3 W HB) | (have _t : Nat := g1; clear _t; intro g2 W HB) | (have _t : Nat := g0; clear _t; intro g1 W HB) | intro g0 W HB); go_simp) | ((with_reducible show Oper.wp _ _ _ _ _ _); (first | (with_reducible refine is_ld 3 _ rfl ?_; (first | refine lf_int 0 HB rfl _ rfl rfl rfl ?_ | refine lf_int 1 HB rfl _ rfl rfl rfl ?_ | refine lf_int 2 HB rfl _ rfl rfl rfl ?_ | refine lf_int 3 HB rfl _ rfl rfl rfl ?_ | refine lf_int 4 HB rfl _ rfl rfl rfl ?_ | refine lf_int 5 HB rfl _ rfl rfl rfl ?_)) | (with_reducible refine is_ld 25 _ rfl ?_; (first | refine lf_ss 0 HB rfl _ rfl rfl rfl ?_ | refine lf_ss 1 HB rfl _ rfl rfl rfl ?_ | refine lf_ss 2 HB rfl _ rfl rfl rfl ?_ | refine lf_ss 3 HB rfl _ rfl rfl rfl ?_ | refine lf_ss 4 HB rfl _ rfl rfl rfl ?_ | refine lf_ss 5 HB rfl _ rfl rfl rfl ?_)) | (with_reducible refine is_ld 26 _ rfl ?_; (first | refine lf_es 0 HB rfl _ rfl rfl rfl ?_ | refine lf_es 1 HB rfl _ rfl rfl rfl ?_ | refine lf_es 2 HB rfl _ rfl rfl rfl ?_ | refine lf_es 3 HB rfl _ rfl rfl rfl ?_ | refine lf_es 4 HB rfl _ rfl rfl rfl ?_ | refine lf_es 5 HB rfl _ rfl rfl rfl ?_))); go_simp) | ((with_reducible show Oper.wp _ _ _ _ _ _); (first | (with_reducible refine is_ld 40 _ rfl ?_; (first | refine lp_sp 0 HB rfl _ rfl rfl ?_ | refine lp_sp 1 HB rfl _ rfl rfl ?_ | refine lp_sp 2 HB rfl _ rfl rfl ?_ | refine lp_sp 3 HB rfl _ rfl rfl ?_ | refine lp_sp 4 HB rfl _ rfl rfl ?_ | refine lp_sp 5 HB rfl _ rfl rfl ?_)) | (with_reducible refine is_ld 32 _ rfl ?_; (first | refine lp_sv 0 HB rfl _ rfl rfl ?_ | refine lp_sv 1 HB rfl _ rfl rfl ?_ | refine lp_sv 2 HB rfl _ rfl rfl ?_ | refine lp_sv 3 HB rfl _ rfl rfl ?_ | refine lp_sv 4 HB rfl _ rfl rfl ?_ | refine lp_sv 5 HB rfl _ rfl rfl ?_)) | (with_reducible refine is_ld 38 _ rfl ?_; (first | refine lp_pc 0 HB rfl _ rfl rfl ?_ | refine lp_pc 1 HB rfl _ rfl rfl ?_ | refine lp_pc 2 HB rfl _ rfl rfl ?_ | refine lp_pc 3 HB rfl _ rfl rfl ?_ | refine lp_pc 4 HB rfl _ rfl rfl ?_ | refine lp_pc 5 HB rfl _ rfl rfl ?_))); go_simp) | go_values | go_skip | go_guarded | go_step | go_upon)
      refine (HG.out _).mono ?_
      rintro e W1 ⟨rfl, hb⟩
      replace HB := Lib.hid (HB.out.call hb)
      clear hb
      dsimp only
      repeat' (first | go_values | go_skip | go_guarded | go_step | go_upon)
      exact bodyPost_ret (v := .bool V) (by simp [results, Tryd.results26, go_sem]) rfl ⟨rfl, HB.out.bel⟩
    · have hv : gdP p n = false := by rw [HV.out, decide_eq_false (fun h => h1 h.2), Bool.false_and]
      rw [hv]
      clear hv
      have h0' : p.s ≥ 0 := h0
      have HB : Hid (BX w [] w) := Lib.hid (BX.start w)
      go_enter Tryd.func26, Tryd.ntmps26
      repeat' (first | ((with_reducible show Oper.wp _ _ _ _ _ _); (first | (with_reducible refine is_bx 40 _ rfl ?_; refine bx_pl HB _ rfl rfl ?_) | (with_reducible refine is_bx 32 _ rfl ?_; refine bx_va HB _ rfl rfl ?_) | (with_reducible refine is_bx 28 _ rfl ?_; refine bx_en HB _ rfl rfl ?_) | (with_reducible refine is_bx 44 _ rfl ?_; refine bx_sl HB _ rfl rfl ?_)); clear HB; (first | (have _t : Nat := g10; clear _t; intro g11 W HB) | (have _t : Nat := g9; clear _t; intro g10 W HB) | (have _t : Nat := g8; clear _t; intro g9 W HB) | (have _t : Nat := g7; clear _t; intro g8 W HB) | (have _t : Nat := g6; clear _t; intro g7 W HB) | (have _t : Nat := g5; clear _t; intro g6 W HB) | (have _t : Nat := g4; clear _t; intro g5 W HB) | (have _t : Nat := g3; clear _t; intro g4 W HB) | (have _t : Nat := g2; clear _t; intro g3 W HB) | (have _t : Nat := g1; clear _t; intro g2 W HB) | (have _t : Nat := g0; clear _t; intro g1 W HB) | intro g0 W HB); go_simp) | ((with_reducible show Oper.wp _ _ _ _ _ _); (first | (with_reducible refine is_ld 3 _ rfl ?_; (first | refine lf_int 0 HB rfl _ rfl rfl rfl ?_ | refine lf_int 1 HB rfl _ rfl rfl rfl ?_ | refine lf_int 2 HB rfl _ rfl rfl rfl ?_ | refine lf_int 3 HB rfl _ rfl rfl rfl ?_ | refine lf_int 4 HB rfl _ rfl rfl rfl ?_ | refine lf_int 5 HB rfl _ rfl rfl rfl ?_)) | (with_reducible refine is_ld 25 _ rfl ?_; (first | refine lf_ss 0 HB rfl _ rfl rfl rfl ?_ | refine lf_ss 1 HB rfl _ rfl rfl rfl ?_ | refine lf_ss 2 HB rfl _ rfl rfl rfl ?_ | refine lf_ss 3 HB rfl _ rfl rfl rfl ?_ | refine lf_ss 4 HB rfl _ rfl rfl rfl ?_ | refine lf_ss 5 HB rfl _ rfl rfl rfl ?_)) | (with_reducible refine is_ld 26 _ rfl ?_; (first | refine lf_es 0 HB rfl _ rfl rfl rfl ?_ | refine lf_es 1 HB rfl _ rfl rfl rfl ?_ | refine lf_es 2 HB rfl _ rfl rfl rfl ?_ | refine lf_es 3 HB rfl _ rfl rfl rfl ?_ | refine lf_es 4 HB rfl _ rfl rfl rfl ?_ | refine lf_es 5 HB rfl _ rfl rfl rfl ?_))); go_simp) | ((with_reducible show Oper.wp _ _ _ _ _ _); (first | (with_reducible refine is_ld 40 _ rfl ?_; (first | refine lp_sp 0 HB rfl _ rfl rfl ?_ | refine lp_sp 1 HB rfl _ rfl rfl ?_ | refine lp_sp 2 HB rfl _ rfl rfl ?_ | refine lp_sp 3 HB rfl _ rfl rfl ?_ | refine lp_sp 4 HB rfl _ rfl rfl ?_ | refine lp_sp 5 HB rfl _ rfl rfl ?_)) | (with_reducible refine is_ld 32 _ rfl ?_; (first | refine lp_sv 0 HB rfl _ rfl rfl ?_ | refine lp_sv 1 HB rfl _ rfl rfl ?_ | refine lp_sv 2 HB rfl _ rfl rfl ?_ | refine lp_sv 3 HB rfl _ rfl rfl ?_ | refine lp_sv 4 HB rfl _ rfl rfl ?_ | refine lp_sv 5 HB rfl _ rfl rfl ?_)) | (with_reducible refine is_ld 38 _ rfl ?_; (first | refine lp_pc 0 HB rfl _ rfl rfl ?_ | refine lp_pc 1 HB rfl _ rfl rfl ?_ | refine lp_pc 2 HB rfl _ rfl rfl ?_ | refine lp_pc 3 HB rfl _ rfl rfl ?_ | refine lp_pc 4 HB rfl _ rfl rfl ?_ | refine lp_pc 5 HB rfl _ rfl rfl ?_))); go_simp) | go_values | go_skip | go_guarded | go_step | go_upon)
      exact bodyPost_ret (v := .bool false) (by simp [results, Tryd.results26, go_sem]) rfl ⟨rfl, HB.out.bel⟩
  · have hv : gdP p n = false := by rw [HV.out, decide_eq_false (fun h => h0 h.1), Bool.false_and]
    rw [hv]
    clear hv
    have h0' : ¬ p.s ≥ 0 := h0
    have HB : Hid (BX w [] w) := Lib.hid (BX.start w)
    go_enter Tryd.func26, Tryd.ntmps26
    repeat' (first | ((with_reducible show Oper.wp _ _ _ _ _ _); (first | (with_reducible refine is_bx 40 _ rfl ?_; refine bx_pl HB _ rfl rfl ?_) | (with_reducible refine is_bx 32 _ rfl ?_; refine bx_va HB _ rfl rfl ?_) | (with_reducible refine is_bx 28 _ rfl ?_; refine bx_en HB _ rfl rfl ?_) | (with_reducible refine is_bx 44 _ rfl ?_; refine bx_sl HB _ rfl rfl ?_)); clear HB; (first | (have _t : Nat := g10; clear _t; intro g11 W HB) | (have _t : Nat := g9; clear _t; intro g10 W HB) | (have _t : Nat := g8; clear _t; intro g9 W HB) | (have _t : Nat := g7; clear _t; intro g8 W HB) | (have _t : Nat := g6; clear _t; intro g7 W HB) | (have _t : Nat := g5; clear _t; intro g6 W HB) | (have _t : Nat := g4; clear _t; intro g5 W HB) | (have _t : Nat := g3; clear _t; intro g4 W HB) | (have _t : Nat := g2; clear _t; intro g3 W HB) | (have _t : Nat := g1; clear _t; intro g2 W HB) | (have _t : Nat := g0; clear _t; intro g1 W HB) | intro g0 W HB); go_simp) | ((with_reducible show Oper.wp _ _ _ _ _ _); (first | (with_reducible refine is_ld 3 _ rfl ?_; (first | refine lf_int 0 HB rfl _ rfl rfl rfl ?_ | refine lf_int 1 HB rfl _ rfl rfl rfl ?_ | refine lf_int 2 HB rfl _ rfl rfl rfl ?_ | refine lf_int 3 HB rfl _ rfl rfl rfl ?_ | refine lf_int 4 HB rfl _ rfl rfl rfl ?_ | refine lf_int 5 HB rfl _ rfl rfl rfl ?_)) | (with_reducible refine is_ld 25 _ rfl ?_; (first | refine lf_ss 0 HB rfl _ rfl rfl rfl ?_ | refine lf_ss 1 HB rfl _ rfl rfl rfl ?_ | refine lf_ss 2 HB rfl _ rfl rfl rfl ?_ | refine lf_ss 3 HB rfl _ rfl rfl rfl ?_ | refine lf_ss 4 HB rfl _ rfl rfl rfl ?_ | refine lf_ss 5 HB rfl _ rfl rfl rfl ?_)) | (with_reducible refine is_ld 26 _ rfl ?_; (first | refine lf_es 0 HB rfl _ rfl rfl rfl ?_ | refine lf_es 1 HB rfl _ rfl rfl rfl ?_ | refine lf_es 2 HB rfl _ rfl rfl rfl ?_ | refine lf_es 3 HB rfl _ rfl rfl rfl ?_ | refine lf_es 4 HB rfl _ rfl rfl rfl ?_ | refine lf_es 5 HB rfl _ rfl rfl rfl ?_))); go_simp) | ((with_reducible show Oper.wp _ _ _ _ _ _); (first | (with_reducible refine is_ld 40 _ rfl ?_; (first | refine lp_sp 0 HB rfl _ rfl rfl ?_ | refine lp_sp 1 HB rfl _ rfl rfl ?_ | refine lp_sp 2 HB rfl _ rfl rfl ?_ | refine lp_sp 3 HB rfl _ rfl rfl ?_ | refine lp_sp 4 HB rfl _ rfl rfl ?_ | refine lp_sp 5 HB rfl _ rfl rfl ?_)) | (with_reducible refine is_ld 32 _ rfl ?_; (first | refine lp_sv 0 HB rfl _ rfl rfl ?_ | refine lp_sv 1 HB rfl _ rfl rfl ?_ | refine lp_sv 2 HB rfl _ rfl rfl ?_ | refine lp_sv 3 HB rfl _ rfl rfl ?_ | refine lp_sv 4 HB rfl _ rfl rfl ?_ | refine lp_sv 5 HB rfl _ rfl rfl ?_)) | (with_reducible refine is_ld 38 _ rfl ?_; (first | refine lp_pc 0 HB rfl _ rfl rfl ?_ | refine lp_pc 1 HB rfl _ rfl rfl ?_ | refine lp_pc 2 HB rfl _ rfl rfl ?_ | refine lp_pc 3 HB rfl _ rfl rfl ?_ | refine lp_pc 4 HB rfl _ rfl rfl ?_ | refine lp_pc 5 HB rfl _ rfl rfl ?_))); go_simp) | go_values | go_skip | go_guarded | go_step | go_upon)
    exact bodyPost_ret (v := .bool false) (by simp [results, Tryd.results26, go_sem]) rfl ⟨rfl, HB.out.bel⟩
def SkI (L : List Sl) (p : Pl) (f t : Nat) : Prop := f ≤ t ∧ t ≤ L.length ∧ (∀ (i : Nat) (x : Sl), i < f → L[i]? = some x → lsP x.p p = true) ∧ ∀ (i : Nat) (x : Sl), t ≤ i → L[i]? = some x → lsP x.p p = false
theorem ski_0 (L : List Sl) (p : Pl) : SkI L p 0 L.length := ⟨Nat.zero_le _, Nat.le_refl _, fun _ _ h => absurd h (by omega), fun i x h hx => by
  have := (List.getElem?_eq_some_iff.1 hx).1
  omega⟩
theorem ski_lo {L : List Sl} {p : Pl} {f t m : Nat} {x : Sl} (hU : Up L) (h : SkI L p f t) (h1 : f ≤ m) (h2 : m < t) (hx : L[m]? = some x) (hl : lsP x.p p = true) : SkI L p (m + 1) t :=
  ⟨by omega, h.2.1, fun i y hi hy => by
    rcases Nat.lt_or_eq_of_le (Nat.le_of_lt_succ hi) with h' | rfl
    · exact lsP_trans (hU i m y x h' hy hx) hl
    · rw [hy] at hx
      injection hx with hx
      subst hx
      exact hl, h.2.2.2⟩
theorem ski_hi {L : List Sl} {p : Pl} {f t m : Nat} {x : Sl} (hU : Up L) (h : SkI L p f t) (h1 : f ≤ m) (h2 : m < t) (hx : L[m]? = some x) (hl : lsP x.p p = false) : SkI L p f m :=
  ⟨h1, by have := h.2.1; omega, h.2.2.1, fun i y hi hy => by
    rcases Nat.lt_or_eq_of_le hi with h' | rfl
    · cases hh : lsP y.p p with
      | false => rfl
      | true =>
        rw [lsP_trans (hU m i x y h' hx hy) hh] at hl
        cases hl
    · rw [hy] at hx
      injection hx with hx
      subst hx
      exact hl⟩
theorem ski_end {L : List Sl} {p : Pl} {f : Nat} (h : SkI L p f f) : kth p L = f := kth_at h.2.1 h.2.2.1 fun x hx => h.2.2.2 f x (Nat.le_refl _) hx
/-- What stands at seek's two labels. -/
def SkJ (w : World) (L : List Sl) (p : Pl) (A : Option Addr) (n c gp : Nat) (g lb : Nat) (a : Act) (W : World) : Prop :=
  a.defers = [] ∧ a.tmps.size = 44 ∧ a.tmps.getD 0 undef = .slice A n c ∧ a.tmps.getD 3 undef = .pointer (some ⟨gp, 0, none⟩) ∧ BX w [(gp, 40, plc p)] W ∧
  ∃ f t : Nat, a.tmps.getD 6 undef = .int .i64 f ∧ a.tmps.getD 7 undef = .int .i64 t ∧ SkI L p f t ∧ (lb = 0 ∧ g = 2 * (t - f) ∨
    lb = 1 ∧ ∃ (m : Nat) (x : Sl), a.tmps.getD 8 undef = .int .i64 m ∧ f ≤ m ∧ m < t ∧ L[m]? = some x ∧ lsP x.p p = true ∧ g = 2 * (t - m) - 1)
def SkF (w : World) (L : List Sl) (p : Pl) (a : Act) (W : World) : Prop := a.defers = [] ∧ a.tmps.getD 4 undef = .int .i64 (kth p L) ∧ a.tmps.getD 5 undef = .bool (hasP p L) ∧ Below w.heap.size w W
set_option maxRecDepth 20000 in
set_option maxHeartbeats 4000000 in
theorem sk_pass1 {w : World} {L : List Sl} {p : Pl} {A : Option Addr} {n c gp g : Nat} {B : Nat} (HR : Hid (Rd w B 9 A L.length (rwc L))) (HBB : Hid (B ≤ w.heap.size)) (HN : Hid (n = L.length)) (HL : Hid (n ≤ 100000)) (HCC : Hid (n ≤ c)) (HU : Hid (Up L)) {Q : Exit → Act → World → Prop} (hQ : ∀ a W, SkF w L p a W → Q .ret a W) {r0 body rest : Code}
    (hbody : Tryd.f27.body = some (.seq r0 (.scope body))) (hr : findLabel body 1 = some (.seq .skip rest)) {a : Act} {W : World} (hJ : SkJ w L p A n c gp g 1 a W) :
    rest.wp Tryd.prog (Exit.jumps (fun l' a' W' => ∃ g', g' < g ∧ SkJ w L p A n c gp g' l' a' W') Q) a W := by
  unfold Tryd.f27 at hbody
  simp only [Option.some.injEq] at hbody
  have hb2 := Code.scope.inj (Code.seq.inj hbody).2
  clear hbody
  subst hb2
  injection hr with hr
  injection hr with _ hr
  subst hr
  obtain ⟨hd, hsz, e0, e3, hBX, f, t, e6, e7, hI, hx⟩ := hJ
  obtain ⟨m, x, e8, h1, h2, hx8, hls, rfl⟩ : ∃ (m : Nat) (x : Sl), a.tmps.getD 8 undef = .int .i64 m ∧ f ≤ m ∧ m < t ∧ L[m]? = some x ∧ lsP x.p p = true ∧ g = 2 * (t - m) - 1 := by
    rcases hx with ⟨h, -⟩ | ⟨-, h⟩
    · cases h
    · exact h
  have htn := hI.2.1
  have hnl : t ≤ 100000 := by have := HL.out; have := HN.out; omega
  have HI := Lib.hid (ski_lo HU.out hI h1 h2 hx8 hls)
  have HB := Lib.hid hBX
  rw [act_lit 44 a hd hsz]
  simp only [List.range, List.range.loop, List.map, e0, e3, e6, e7, e8]
  clear e0 e3 e6 e7 e8 hd hsz hBX hI hx hx8 hls htn
  generalize a.tmps.getD 1 undef = y1
  generalize a.tmps.getD 2 undef = y2
  generalize a.tmps.getD 4 undef = y4
  generalize a.tmps.getD 5 undef = y5
  generalize a.tmps.getD 9 undef = y9
  generalize a.tmps.getD 10 undef = y10
  generalize a.tmps.getD 11 undef = y11
  generalize a.tmps.getD 12 undef = y12
  generalize a.tmps.getD 13 undef = y13
  generalize a.tmps.getD 14 undef = y14
  generalize a.tmps.getD 15 undef = y15
  generalize a.tmps.getD 16 undef = y16
  generalize a.tmps.getD 17 undef = y17
  generalize a.tmps.getD 18 undef = y18
  generalize a.tmps.getD 19 undef = y19
  generalize a.tmps.getD 20 undef = y20
  generalize a.tmps.getD 21 undef = y21
  generalize a.tmps.getD 22 undef = y22
  generalize a.tmps.getD 23 undef = y23
  generalize a.tmps.getD 24 undef = y24
  generalize a.tmps.getD 25 undef = y25
  generalize a.tmps.getD 26 undef = y26
  generalize a.tmps.getD 27 undef = y27
  generalize a.tmps.getD 28 undef = y28
  generalize a.tmps.getD 29 undef = y29
  generalize a.tmps.getD 30 undef = y30
  generalize a.tmps.getD 31 undef = y31
  generalize a.tmps.getD 32 undef = y32
  generalize a.tmps.getD 33 undef = y33
  generalize a.tmps.getD 34 undef = y34
  generalize a.tmps.getD 35 undef = y35
  generalize a.tmps.getD 36 undef = y36
  generalize a.tmps.getD 37 undef = y37
  generalize a.tmps.getD 38 undef = y38
  generalize a.tmps.getD 39 undef = y39
  generalize a.tmps.getD 40 undef = y40
  generalize a.tmps.getD 41 undef = y41
  generalize a.tmps.getD 42 undef = y42
  generalize a.tmps.getD 43 undef = y43
  repeat' (first | go_values | go_skip | go_guarded | go_step | go_upon)
  go_step3
  exact ⟨2 * (t - (m + 1)), by omega, rfl, rfl, rfl, rfl, HB.out, m + 1, t, by simp, rfl, HI.out, .inl ⟨rfl, rfl⟩⟩
set_option maxRecDepth 20000 in
set_option maxHeartbeats 4000000 in
theorem sk_pass0 {w : World} {L : List Sl} {p : Pl} {A : Option Addr} {n c gp g : Nat} {B : Nat} (HR : Hid (Rd w B 9 A L.length (rwc L))) (HBB : Hid (B ≤ w.heap.size)) (HN : Hid (n = L.length)) (HL : Hid (n ≤ 100000)) (HCC : Hid (n ≤ c)) (HU : Hid (Up L)) {Q : Exit → Act → World → Prop} (hQ : ∀ a W, SkF w L p a W → Q .ret a W) {r0 body rest : Code}
    (hbody : Tryd.f27.body = some (.seq r0 (.scope body))) (hr : findLabel body 0 = some (.seq .skip rest)) {a : Act} {W : World} (hJ : SkJ w L p A n c gp g 0 a W) :
    rest.wp Tryd.prog (Exit.jumps (fun l' a' W' => ∃ g', g' < g ∧ SkJ w L p A n c gp g' l' a' W') Q) a W := by
  unfold Tryd.f27 at hbody
  simp only [Option.some.injEq] at hbody
  have hb2 := Code.scope.inj (Code.seq.inj hbody).2
  clear hbody
  subst hb2
  injection hr with hr
  injection hr with _ hr
  subst hr
  obtain ⟨hd, hsz, e0, e3, hBX, f, t, e6, e7, hI, hx⟩ := hJ
  obtain rfl : g = 2 * (t - f) := by
    rcases hx with ⟨-, h⟩ | ⟨h, -⟩
    · exact h
    · cases h
  clear hx
  have HK : Hid (Bk W gp 40 (plc p).toArray) := Lib.hid (hBX.get (i := 0) rfl)
  have HB := Lib.hid hBX
  have HI := Lib.hid hI
  have htn := hI.2.1
  have hft := hI.1
  rw [← HN.out] at htn
  have hnl := HL.out
  have hnc := HCC.out
  have HQ := Lib.hid hQ
  rw [act_lit 44 a hd hsz]
  simp only [List.range, List.range.loop, List.map, e0, e3, e6, e7]
  clear e0 e3 e6 e7 hd hsz hBX hI hQ
  generalize a.tmps.getD 1 undef = y1
  generalize a.tmps.getD 2 undef = y2
  generalize a.tmps.getD 4 undef = y4
  generalize a.tmps.getD 5 undef = y5
  generalize a.tmps.getD 8 undef = y8
  generalize a.tmps.getD 9 undef = y9
  generalize a.tmps.getD 10 undef = y10
  generalize a.tmps.getD 11 undef = y11
  generalize a.tmps.getD 12 undef = y12
  generalize a.tmps.getD 13 undef = y13
  generalize a.tmps.getD 14 undef = y14
  generalize a.tmps.getD 15 undef = y15
  generalize a.tmps.getD 16 undef = y16
  generalize a.tmps.getD 17 undef = y17
  generalize a.tmps.getD 18 undef = y18
  generalize a.tmps.getD 19 undef = y19
  generalize a.tmps.getD 20 undef = y20
  generalize a.tmps.getD 21 undef = y21
  generalize a.tmps.getD 22 undef = y22
  generalize a.tmps.getD 23 undef = y23
  generalize a.tmps.getD 24 undef = y24
  generalize a.tmps.getD 25 undef = y25
  generalize a.tmps.getD 26 undef = y26
  generalize a.tmps.getD 27 undef = y27
  generalize a.tmps.getD 28 undef = y28
  generalize a.tmps.getD 29 undef = y29
  generalize a.tmps.getD 30 undef = y30
  generalize a.tmps.getD 31 undef = y31
  generalize a.tmps.getD 32 undef = y32
  generalize a.tmps.getD 33 undef = y33
  generalize a.tmps.getD 34 undef = y34
  generalize a.tmps.getD 35 undef = y35
  generalize a.tmps.getD 36 undef = y36
  generalize a.tmps.getD 37 undef = y37
  generalize a.tmps.getD 38 undef = y38
  generalize a.tmps.getD 39 undef = y39
  generalize a.tmps.getD 40 undef = y40
  generalize a.tmps.getD 41 undef = y41
  generalize a.tmps.getD 42 undef = y42
  generalize a.tmps.getD 43 undef = y43
  by_cases hft' : f = t
  · subst hft'
    have HE := Lib.hid (ski_end HI.out)
    clear hft
    by_cases hfn : f < n
    · obtain ⟨x, hx⟩ : ∃ x, L[f]? = some x := ⟨_, List.getElem?_eq_getElem (by rw [← HN.out]; exact hfn)⟩
      have hP : hasP p L = eqP x.p p := by unfold hasP; rw [HE.out, hx]
      obtain ⟨a0, rfl, ha0, hc0⟩ := row_at HR.out hx
      have HA := Lib.hid (show a0.block < W.heap.size from Nat.lt_of_lt_of_le ha0 (Nat.le_trans HBB.out HB.out.bel.size))
      have HC := Lib.hid (show ∀ (j : Nat) (u : Value), (slc x)[j]? = some u → W.cell? ((a0.add (f * 9)).add j) = some u from fun j u hj => (HB.out.bel.cell (p := (a0.add (f * 9)).add j) (by rw [add_block, add_block]; exact Nat.lt_of_lt_of_le ha0 HBB.out)).trans (hc0 j u hj))
      have HP := Lib.hid hP
      clear hP ha0 hc0 hx
      obtain ⟨W0, hW⟩ : ∃ W0, W0 = W := ⟨_, rfl⟩
      subst hW
      have hfn' : (f : Int) < (n : Int) := by omega
      have hf0 : (0 : Int) ≤ (f : Int) := by omega
      repeat' (first | go_values | go_skip | go_guarded | go_step | go_upon)
      refine wp_region_phases (S := (fun _ W => Below W0.heap.size W0 W)) (E := (fun W W' => Below W.heap.size W W')) [] [(0, Is (.slice (some a0) n c)), (3, Is (.pointer (some ⟨gp, 0, none⟩))), (6, Is (.int .i64 f))] [(14, Is (.int .i64 f)), (15, Is (.int .i64 f)), (16, Is (.slice (some a0) n c)), (17, Is (.int .i64 n)), (18, Is (.bool true)), (19, Is (.bool true)), (20, Is (.slice (some a0) n c)), (21, Is (.int .i64 f)), (22, Is (.pointer (some (a0.add (f * 9))))), (23, Is (.pointer (some (a0.add (f * 9))))), (24, Is (.agg (plc x.p).toArray)), (25, Is (.agg (plc p).toArray)), (26, Is (.bool (eqP x.p p))), (27, Is (.bool (eqP x.p p))), (4, Is (.int .i64 f)), (5, Is (.bool (eqP x.p p)))]
        [.op [6] none, .op [6] none, .op [0] none, .op [16] none, .op [15, 17] none, .op [18] none, .op [0, 19] (some (19, true)), .op [6, 19] (some (19, true)), .op [20, 21, 19] (some (19, true)), .op [22, 19] (some (19, true)), .op [23, 19] (some (19, true)), .op [3, 19] (some (19, true)), .op [24, 25, 19] (some (19, true)), .op [19, 26] none, .op [14] none, .op [27] none] (by as_aux_lemma => kernel_rfl) ?_ ?_ ?_ ?_ ?_ ⟨stable_is _ _, stable_is _ _, stable_is _ _, stable_is _ _, stable_is _ _, stable_is _ _, stable_is _ _, stable_is _ _, stable_is _ _, stable_is _ _, stable_is _ _, stable_is _ _, stable_is _ _, stable_is _ _, stable_is _ _, stable_is _ _, stable_is _ _, stable_is _ _, stable_is _ _, trivial⟩ ?_ (Below.refl _ _).drew ?_ ?_
      · as_aux_lemma => kernel_rfl
      · as_aux_lemma => kernel_rfl
      · as_aux_lemma => kernel_rfl
      · as_aux_lemma => kernel_rfl
      · as_aux_lemma => kernel_rfl
      · exact ⟨rfl, rfl, rfl, trivial⟩
      · refine ⟨?_, ?_, ?_, ?_, ?_, ?_, ?_, ?_, ?_, ?_, ?_, ?_, ?_, ?_, ?_, ?_, trivial⟩
        · as_aux_lemma =>
            intro vals a W hS hL
            have e6 : a.tmps.getD 6 undef = .int .i64 f := hL.1
            clear hL
            go_simp
            exact ⟨⟨fun d hd => by injection hd with hd; subst hd; rfl, fun h => by cases h⟩, hS, (Below.refl _ _)⟩
        · as_aux_lemma =>
            intro vals a W hS hL
            have e6 : a.tmps.getD 6 undef = .int .i64 f := hL.1
            clear hL
            go_simp
            exact ⟨⟨fun d hd => by injection hd with hd; subst hd; rfl, fun h => by cases h⟩, hS, (Below.refl _ _)⟩
        · as_aux_lemma =>
            intro vals a W hS hL
            have e0 : a.tmps.getD 0 undef = .slice (some a0) n c := hL.1
            clear hL
            go_simp
            exact ⟨⟨fun d hd => by injection hd with hd; subst hd; rfl, fun h => by cases h⟩, hS, (Below.refl _ _)⟩
        · as_aux_lemma =>
            intro vals a W hS hL
            have e16 : a.tmps.getD 16 undef = .slice (some a0) n c := hL.1
            clear hL
            go_simp
            exact ⟨⟨fun d hd => by injection hd with hd; subst hd; rfl, fun h => by cases h⟩, hS, (Below.refl _ _)⟩
        · as_aux_lemma =>
            intro vals a W hS hL
            have e15 : a.tmps.getD 15 undef = .int .i64 f := hL.1
            have e17 : a.tmps.getD 17 undef = .int .i64 n := hL.2.1
            clear hL
            go_simp
            exact ⟨⟨fun d hd => by injection hd with hd; subst hd; rfl, fun h => by cases h⟩, hS, (Below.refl _ _)⟩
        · as_aux_lemma =>
            intro vals a W hS hL
            have e18 : a.tmps.getD 18 undef = .bool true := hL.1
            clear hL
            go_simp
            exact ⟨⟨fun d hd => by injection hd with hd; subst hd; rfl, fun h => by cases h⟩, hS, (Below.refl _ _)⟩
        · as_aux_lemma =>
            intro vals a W hS hL
            have e0 : a.tmps.getD 0 undef = .slice (some a0) n c := hL.1
            have e19 : a.tmps.getD 19 undef = .bool true := hL.2.1
            clear hL
            refine ⟨true, e19, ?_⟩
            rw [if_pos rfl]
            go_simp
            exact ⟨⟨fun d hd => by injection hd with hd; subst hd; rfl, fun h => by cases h⟩, hS, (Below.refl _ _)⟩
        · as_aux_lemma =>
            intro vals a W hS hL
            have e6 : a.tmps.getD 6 undef = .int .i64 f := hL.1
            have e19 : a.tmps.getD 19 undef = .bool true := hL.2.1
            clear hL
            refine ⟨true, e19, ?_⟩
            rw [if_pos rfl]
            go_simp
            exact ⟨⟨fun d hd => by injection hd with hd; subst hd; rfl, fun h => by cases h⟩, hS, (Below.refl _ _)⟩
        · as_aux_lemma =>
            intro vals a W hS hL
            have e20 : a.tmps.getD 20 undef = .slice (some a0) n c := hL.1
            have e21 : a.tmps.getD 21 undef = .int .i64 f := hL.2.1
            have e19 : a.tmps.getD 19 undef = .bool true := hL.2.2.1
            clear hL
            refine ⟨true, e19, ?_⟩
            rw [if_pos rfl]
            go_simp
            exact ⟨⟨fun d hd => by injection hd with hd; subst hd; rfl, fun h => by cases h⟩, hS, (Below.refl _ _)⟩
        · as_aux_lemma =>
            intro vals a W hS hL
            have e22 : a.tmps.getD 22 undef = .pointer (some (a0.add (f * 9))) := hL.1
            have e19 : a.tmps.getD 19 undef = .bool true := hL.2.1
            clear hL
            refine ⟨true, e19, ?_⟩
            rw [if_pos rfl]
            go_simp
            exact ⟨⟨fun d hd => by injection hd with hd; subst hd; rfl, fun h => by cases h⟩, hS, (Below.refl _ _)⟩
        · as_aux_lemma =>
            intro vals a W hS hL
            have e23 : a.tmps.getD 23 undef = .pointer (some (a0.add (f * 9))) := hL.1
            have e19 : a.tmps.getD 19 undef = .bool true := hL.2.1
            clear hL
            refine ⟨true, e19, ?_⟩
            rw [if_pos rfl]
            refine lands_vB (run_ldmB (cs := plc x.p) rtPl (fun j u hj => ?_) (.tmp 23) rfl e23) ?_
            · exact (hS.cell (p := (a0.add (f * 9)).add j) (by rw [add_block, add_block]; exact HA.out)).trans (HC.out j u (by have := sl_p x j u hj; rwa [Nat.zero_add] at this))
            exact ⟨⟨fun d hd => by injection hd with hd; subst hd; rfl, fun h => by cases h⟩, hS, Below.refl _ _⟩
        · as_aux_lemma =>
            intro vals a W hS hL
            have e3 : a.tmps.getD 3 undef = .pointer (some ⟨gp, 0, none⟩) := hL.1
            have e19 : a.tmps.getD 19 undef = .bool true := hL.2.1
            clear hL
            refine ⟨true, e19, ?_⟩
            rw [if_pos rfl]
            refine lands_vB (run_ldg (cs := plc p) rtPl (HK.out.below hS HK.out.lt) (.tmp 3) rfl e3) ?_
            exact ⟨⟨fun d hd => by injection hd with hd; subst hd; rfl, fun h => by cases h⟩, hS, Below.refl _ _⟩
        · as_aux_lemma =>
            intro vals a W hS hL
            have e24 : a.tmps.getD 24 undef = .agg (plc x.p).toArray := hL.1
            have e25 : a.tmps.getD 25 undef = .agg (plc p).toArray := hL.2.1
            have e19 : a.tmps.getD 19 undef = .bool true := hL.2.2.1
            clear hL
            refine ⟨true, e19, ?_⟩
            rw [if_pos rfl]
            refine lands_vB (run_eqlp (.tmp 24) (.tmp 25) rfl e24 e25) ?_
            exact ⟨⟨fun d hd => by injection hd with hd; subst hd; rfl, fun h => by cases h⟩, hS, Below.refl _ _⟩
        · as_aux_lemma =>
            intro vals a W hS hL
            have e19 : a.tmps.getD 19 undef = .bool true := hL.1
            have e26 : a.tmps.getD 26 undef = .bool (eqP x.p p) := hL.2.1
            clear hL
            go_simp
            exact ⟨⟨fun d hd => by injection hd with hd; subst hd; rfl, fun h => by cases h⟩, hS, (Below.refl _ _)⟩
        · as_aux_lemma =>
            intro vals a W hS hL
            have e14 : a.tmps.getD 14 undef = .int .i64 f := hL.1
            clear hL
            go_simp
            exact ⟨⟨fun d hd => by injection hd with hd; subst hd; rfl, fun h => by cases h⟩, hS, (Below.refl _ _)⟩
        · as_aux_lemma =>
            intro vals a W hS hL
            have e27 : a.tmps.getD 27 undef = .bool (eqP x.p p) := hL.1
            clear hL
            go_simp
            exact ⟨⟨fun d hd => by injection hd with hd; subst hd; rfl, fun h => by cases h⟩, hS, (Below.refl _ _)⟩
      · intro a W vals hd hsz hT hF hv hP hS
        obtain rfl : vals = [] := List.eq_nil_of_length_eq_zero hv
        have e4 : a.tmps.getD 4 undef = .int .i64 f := hT 4 (by simp)
        have e5 : a.tmps.getD 5 undef = .bool (eqP x.p p) := hT 5 (by simp)
        clear hT hF hP
        rw [act_lit 44 a hd hsz]
        simp only [List.range, List.range.loop, List.map, e4, e5]
        clear e4 e5 hsz hd
        repeat' (first | go_values | go_skip | go_guarded | go_step | go_upon)
        refine HQ.out _ _ ⟨rfl, ?_, ?_, HB.out.bel.trans (hS.mono HB.out.bel.size)⟩
        · rw [HE.out]; rfl
        · rw [HP.out]; rfl
    · obtain rfl : f = n := by omega
      have hP : hasP p L = false := by unfold hasP; rw [HE.out, List.getElem?_eq_none (by rw [← HN.out]; exact Nat.le_refl _)]
      have HP := Lib.hid hP
      clear hP
      obtain ⟨W0, hW⟩ : ∃ W0, W0 = W := ⟨_, rfl⟩
      subst hW
      repeat' (first | go_values | go_skip | go_guarded | go_step | go_upon)
      refine wp_region_phases (S := (fun _ W => Below W0.heap.size W0 W)) (E := (fun W W' => Below W.heap.size W W')) [] [(0, Is (.slice A f c)), (3, Is (.pointer (some ⟨gp, 0, none⟩))), (6, Is (.int .i64 f))] [(14, Is (.int .i64 f)), (15, Is (.int .i64 f)), (16, Is (.slice A f c)), (17, Is (.int .i64 f)), (18, Is (.bool false)), (19, Is (.bool false)), (20, Is (undef)), (21, Is (undef)), (22, Is (undef)), (23, Is (undef)), (24, Is (undef)), (25, Is (undef)), (26, Is (undef)), (27, Is (.bool false)), (4, Is (.int .i64 f)), (5, Is (.bool false))]
        [.op [6] none, .op [6] none, .op [0] none, .op [16] none, .op [15, 17] none, .op [18] none, .op [0, 19] (some (19, true)), .op [6, 19] (some (19, true)), .op [20, 21, 19] (some (19, true)), .op [22, 19] (some (19, true)), .op [23, 19] (some (19, true)), .op [3, 19] (some (19, true)), .op [24, 25, 19] (some (19, true)), .op [19, 26] none, .op [14] none, .op [27] none] (by as_aux_lemma => kernel_rfl) ?_ ?_ ?_ ?_ ?_ ⟨stable_is _ _, stable_is _ _, stable_is _ _, stable_is _ _, stable_is _ _, stable_is _ _, stable_is _ _, stable_is _ _, stable_is _ _, stable_is _ _, stable_is _ _, stable_is _ _, stable_is _ _, stable_is _ _, stable_is _ _, stable_is _ _, stable_is _ _, stable_is _ _, stable_is _ _, trivial⟩ ?_ (Below.refl _ _).drew ?_ ?_
      · as_aux_lemma => kernel_rfl
      · as_aux_lemma => kernel_rfl
      · as_aux_lemma => kernel_rfl
      · as_aux_lemma => kernel_rfl
      · as_aux_lemma => kernel_rfl
      · exact ⟨rfl, rfl, rfl, trivial⟩
      · refine ⟨?_, ?_, ?_, ?_, ?_, ?_, ?_, ?_, ?_, ?_, ?_, ?_, ?_, ?_, ?_, ?_, trivial⟩
        · as_aux_lemma =>
            intro vals a W hS hL
            have e6 : a.tmps.getD 6 undef = .int .i64 f := hL.1
            clear hL
            go_simp
            exact ⟨⟨fun d hd => by injection hd with hd; subst hd; rfl, fun h => by cases h⟩, hS, (Below.refl _ _)⟩
        · as_aux_lemma =>
            intro vals a W hS hL
            have e6 : a.tmps.getD 6 undef = .int .i64 f := hL.1
            clear hL
            go_simp
            exact ⟨⟨fun d hd => by injection hd with hd; subst hd; rfl, fun h => by cases h⟩, hS, (Below.refl _ _)⟩
        · as_aux_lemma =>
            intro vals a W hS hL
            have e0 : a.tmps.getD 0 undef = .slice A f c := hL.1
            clear hL
            go_simp
            exact ⟨⟨fun d hd => by injection hd with hd; subst hd; rfl, fun h => by cases h⟩, hS, (Below.refl _ _)⟩
        · as_aux_lemma =>
            intro vals a W hS hL
            have e16 : a.tmps.getD 16 undef = .slice A f c := hL.1
            clear hL
            go_simp
            exact ⟨⟨fun d hd => by injection hd with hd; subst hd; rfl, fun h => by cases h⟩, hS, (Below.refl _ _)⟩
        · as_aux_lemma =>
            intro vals a W hS hL
            have e15 : a.tmps.getD 15 undef = .int .i64 f := hL.1
            have e17 : a.tmps.getD 17 undef = .int .i64 f := hL.2.1
            clear hL
            go_simp
            exact ⟨⟨fun d hd => by injection hd with hd; subst hd; rfl, fun h => by cases h⟩, hS, (Below.refl _ _)⟩
        · as_aux_lemma =>
            intro vals a W hS hL
            have e18 : a.tmps.getD 18 undef = .bool false := hL.1
            clear hL
            go_simp
            exact ⟨⟨fun d hd => by injection hd with hd; subst hd; rfl, fun h => by cases h⟩, hS, (Below.refl _ _)⟩
        · as_aux_lemma =>
            intro vals a W hS hL
            have e0 : a.tmps.getD 0 undef = .slice A f c := hL.1
            have e19 : a.tmps.getD 19 undef = .bool false := hL.2.1
            clear hL
            refine ⟨false, e19, ?_⟩
            rw [if_neg (by decide)]
            exact ⟨⟨fun d hd => by injection hd with hd; subst hd; rfl, fun h => by cases h⟩, (Below.refl _ _)⟩
        · as_aux_lemma =>
            intro vals a W hS hL
            have e6 : a.tmps.getD 6 undef = .int .i64 f := hL.1
            have e19 : a.tmps.getD 19 undef = .bool false := hL.2.1
            clear hL
            refine ⟨false, e19, ?_⟩
            rw [if_neg (by decide)]
            exact ⟨⟨fun d hd => by injection hd with hd; subst hd; rfl, fun h => by cases h⟩, (Below.refl _ _)⟩
        · as_aux_lemma =>
            intro vals a W hS hL
            have e20 : a.tmps.getD 20 undef = undef := hL.1
            have e21 : a.tmps.getD 21 undef = undef := hL.2.1
            have e19 : a.tmps.getD 19 undef = .bool false := hL.2.2.1
            clear hL
            refine ⟨false, e19, ?_⟩
            rw [if_neg (by decide)]
            exact ⟨⟨fun d hd => by injection hd with hd; subst hd; rfl, fun h => by cases h⟩, (Below.refl _ _)⟩
        · as_aux_lemma =>
            intro vals a W hS hL
            have e22 : a.tmps.getD 22 undef = undef := hL.1
            have e19 : a.tmps.getD 19 undef = .bool false := hL.2.1
            clear hL
            refine ⟨false, e19, ?_⟩
            rw [if_neg (by decide)]
            exact ⟨⟨fun d hd => by injection hd with hd; subst hd; rfl, fun h => by cases h⟩, (Below.refl _ _)⟩
        · as_aux_lemma =>
            intro vals a W hS hL
            have e23 : a.tmps.getD 23 undef = undef := hL.1
            have e19 : a.tmps.getD 19 undef = .bool false := hL.2.1
            clear hL
            refine ⟨false, e19, ?_⟩
            rw [if_neg (by decide)]
            exact ⟨⟨fun d hd => by injection hd with hd; subst hd; rfl, fun h => by cases h⟩, (Below.refl _ _)⟩
        · as_aux_lemma =>
            intro vals a W hS hL
            have e3 : a.tmps.getD 3 undef = .pointer (some ⟨gp, 0, none⟩) := hL.1
            have e19 : a.tmps.getD 19 undef = .bool false := hL.2.1
            clear hL
            refine ⟨false, e19, ?_⟩
            rw [if_neg (by decide)]
            exact ⟨⟨fun d hd => by injection hd with hd; subst hd; rfl, fun h => by cases h⟩, (Below.refl _ _)⟩
        · as_aux_lemma =>
            intro vals a W hS hL
            have e24 : a.tmps.getD 24 undef = undef := hL.1
            have e25 : a.tmps.getD 25 undef = undef := hL.2.1
            have e19 : a.tmps.getD 19 undef = .bool false := hL.2.2.1
            clear hL
            refine ⟨false, e19, ?_⟩
            rw [if_neg (by decide)]
            exact ⟨⟨fun d hd => by injection hd with hd; subst hd; rfl, fun h => by cases h⟩, (Below.refl _ _)⟩
        · as_aux_lemma =>
            intro vals a W hS hL
            have e19 : a.tmps.getD 19 undef = .bool false := hL.1
            have e26 : a.tmps.getD 26 undef = undef := hL.2.1
            clear hL
            go_simp
            exact ⟨⟨fun d hd => by injection hd with hd; subst hd; rfl, fun h => by cases h⟩, hS, (Below.refl _ _)⟩
        · as_aux_lemma =>
            intro vals a W hS hL
            have e14 : a.tmps.getD 14 undef = .int .i64 f := hL.1
            clear hL
            go_simp
            exact ⟨⟨fun d hd => by injection hd with hd; subst hd; rfl, fun h => by cases h⟩, hS, (Below.refl _ _)⟩
        · as_aux_lemma =>
            intro vals a W hS hL
            have e27 : a.tmps.getD 27 undef = .bool false := hL.1
            clear hL
            go_simp
            exact ⟨⟨fun d hd => by injection hd with hd; subst hd; rfl, fun h => by cases h⟩, hS, (Below.refl _ _)⟩
      · intro a W vals hd hsz hT hF hv hP hS
        obtain rfl : vals = [] := List.eq_nil_of_length_eq_zero hv
        have e4 : a.tmps.getD 4 undef = .int .i64 f := hT 4 (by simp)
        have e5 : a.tmps.getD 5 undef = .bool false := hT 5 (by simp)
        clear hT hF hP
        rw [act_lit 44 a hd hsz]
        simp only [List.range, List.range.loop, List.map, e4, e5]
        clear e4 e5 hsz hd
        repeat' (first | go_values | go_skip | go_guarded | go_step | go_upon)
        refine HQ.out _ _ ⟨rfl, ?_, ?_, HB.out.bel.trans (hS.mono HB.out.bel.size)⟩
        · rw [HE.out]; rfl
        · rw [HP.out]; rfl
  · obtain ⟨m, hm⟩ : ∃ m, m = f + (t - f) / 2 := ⟨_, rfl⟩
    have h1 : f ≤ m := by omega
    have h2 : m < t := by omega
    have e1 : ((t : Int) - (f : Int)).tdiv 2 = ((t - f) / 2 : Nat) := by
      rw [show (t : Int) - (f : Int) = ((t - f : Nat) : Int) by omega]
      exact (Int.ofNat_tdiv _ _).symm
    have e2 : (f : Int) + ((t - f : Nat) : Int) / 2 = (m : Int) := by omega
    have h3 : ¬ ((f : Int) = (t : Int)) := by omega
    have h4 : (0 : Int) ≤ (m : Int) := by omega
    have h5 : (m : Int) < (n : Int) := by omega
    have h6 : m < n := by omega
    obtain ⟨x, hx⟩ : ∃ x, L[m]? = some x := ⟨_, List.getElem?_eq_getElem (by rw [← HN.out]; exact h6)⟩
    obtain ⟨a0, rfl, ha0, hc0⟩ := row_at HR.out hx
    have HA := Lib.hid (show a0.block < W.heap.size from Nat.lt_of_lt_of_le ha0 (Nat.le_trans HBB.out HB.out.bel.size))
    have HC := Lib.hid (show ∀ (j : Nat) (u : Value), (slc x)[j]? = some u → W.cell? ((a0.add (m * 9)).add j) = some u from fun j u hj => (HB.out.bel.cell (p := (a0.add (m * 9)).add j) (by rw [add_block, add_block]; exact Nat.lt_of_lt_of_le ha0 HBB.out)).trans (hc0 j u hj))
    have HLO := Lib.hid (fun h : lsP x.p p = true => (And.intro h1 (And.intro h2 (And.intro hx h))))
    have HHI := Lib.hid (fun h : lsP x.p p = false => ski_hi HU.out HI.out h1 h2 hx h)
    clear ha0 hc0 hx hm
    obtain ⟨W0, hW⟩ : ∃ W0, W0 = W := ⟨_, rfl⟩
    subst hW
    repeat' (first | go_values | go_skip | go_guarded | go_step | go_upon)
    clear e1 e2
    refine wp_region_phases (S := (fun _ W => Below W0.heap.size W0 W)) (E := (fun W W' => Below W.heap.size W W')) [] [(0, Is (.slice (some a0) n c)), (3, Is (.pointer (some ⟨gp, 0, none⟩))), (6, Is (.int .i64 f)), (7, Is (.int .i64 t)), (8, Is (.int .i64 m))] [(34, Is (.slice (some a0) n c)), (35, Is (.int .i64 m)), (36, Is (.pointer (some (a0.add (m * 9))))), (37, Is (.pointer (some (a0.add (m * 9))))), (38, Is (.agg (plc x.p).toArray)), (39, Is (.agg (plc p).toArray)), (40, Is (.bool (lsP x.p p)))]
      [.op [0] none, .op [8] none, .op [34, 35] none, .op [36] none, .op [37] none, .op [3] none, .op [38, 39] none] (by as_aux_lemma => kernel_rfl) ?_ ?_ ?_ ?_ ?_ ⟨stable_is _ _, stable_is _ _, stable_is _ _, stable_is _ _, stable_is _ _, stable_is _ _, stable_is _ _, stable_is _ _, stable_is _ _, stable_is _ _, stable_is _ _, stable_is _ _, trivial⟩ ?_ (Below.refl _ _).drew ?_ ?_
    · as_aux_lemma => kernel_rfl
    · as_aux_lemma => kernel_rfl
    · as_aux_lemma => kernel_rfl
    · as_aux_lemma => kernel_rfl
    · as_aux_lemma => kernel_rfl
    · exact ⟨rfl, rfl, rfl, rfl, rfl, trivial⟩
    · refine ⟨?_, ?_, ?_, ?_, ?_, ?_, ?_, trivial⟩
      · as_aux_lemma =>
          intro vals a W hS hL
          have e0 : a.tmps.getD 0 undef = .slice (some a0) n c := hL.1
          clear hL
          go_simp
          exact ⟨⟨fun d hd => by injection hd with hd; subst hd; rfl, fun h => by cases h⟩, hS, (Below.refl _ _)⟩
      · as_aux_lemma =>
          intro vals a W hS hL
          have e8 : a.tmps.getD 8 undef = .int .i64 m := hL.1
          clear hL
          go_simp
          exact ⟨⟨fun d hd => by injection hd with hd; subst hd; rfl, fun h => by cases h⟩, hS, (Below.refl _ _)⟩
      · as_aux_lemma =>
          intro vals a W hS hL
          have e34 : a.tmps.getD 34 undef = .slice (some a0) n c := hL.1
          have e35 : a.tmps.getD 35 undef = .int .i64 m := hL.2.1
          clear hL
          go_simp
          exact ⟨⟨fun d hd => by injection hd with hd; subst hd; rfl, fun h => by cases h⟩, hS, (Below.refl _ _)⟩
      · as_aux_lemma =>
          intro vals a W hS hL
          have e36 : a.tmps.getD 36 undef = .pointer (some (a0.add (m * 9))) := hL.1
          clear hL
          go_simp
          exact ⟨⟨fun d hd => by injection hd with hd; subst hd; rfl, fun h => by cases h⟩, hS, (Below.refl _ _)⟩
      · as_aux_lemma =>
          intro vals a W hS hL
          have e37 : a.tmps.getD 37 undef = .pointer (some (a0.add (m * 9))) := hL.1
          clear hL
          refine lands_vB (run_ldmB (cs := plc x.p) rtPl (fun j u hj => ?_) (.tmp 37) rfl e37) ?_
          · exact (hS.cell (p := (a0.add (m * 9)).add j) (by rw [add_block, add_block]; exact HA.out)).trans (HC.out j u (by have := sl_p x j u hj; rwa [Nat.zero_add] at this))
          exact ⟨⟨fun d hd => by injection hd with hd; subst hd; rfl, fun h => by cases h⟩, hS, Below.refl _ _⟩
      · as_aux_lemma =>
          intro vals a W hS hL
          have e3 : a.tmps.getD 3 undef = .pointer (some ⟨gp, 0, none⟩) := hL.1
          clear hL
          refine lands_vB (run_ldg (cs := plc p) rtPl (HK.out.below hS HK.out.lt) (.tmp 3) rfl e3) ?_
          exact ⟨⟨fun d hd => by injection hd with hd; subst hd; rfl, fun h => by cases h⟩, hS, Below.refl _ _⟩
      · as_aux_lemma =>
          intro vals a W hS hL
          have e38 : a.tmps.getD 38 undef = .agg (plc x.p).toArray := hL.1
          have e39 : a.tmps.getD 39 undef = .agg (plc p).toArray := hL.2.1
          clear hL
          rw [Array.getD_eq_getD_getElem?] at e38 e39
          go_simp
          refine (ls_any x.p p).mono ?_
          rintro e W2 ⟨rfl, hb⟩
          exact ⟨_, rfl, ⟨fun d hd => by injection hd with hd; subst hd; rfl, fun h => by cases h⟩, hS.trans (hb.mono hS.size), hb⟩
    · intro a W vals hd hsz hT hF hv hP hS
      obtain rfl : vals = [] := List.eq_nil_of_length_eq_zero hv
      have e0 : a.tmps.getD 0 undef = .slice (some a0) n c := hT 0 (by simp)
      have e3 : a.tmps.getD 3 undef = .pointer (some ⟨gp, 0, none⟩) := hT 3 (by simp)
      have e6 : a.tmps.getD 6 undef = .int .i64 f := hT 6 (by simp)
      have e7 : a.tmps.getD 7 undef = .int .i64 t := hT 7 (by simp)
      have e8 : a.tmps.getD 8 undef = .int .i64 m := hT 8 (by simp)
      have e40 : a.tmps.getD 40 undef = .bool (lsP x.p p) := hT 40 (by simp)
      clear hT hF hP
      rw [act_lit 44 a hd hsz]
      simp only [List.range, List.range.loop, List.map, e0, e3, e6, e7, e8, e40]
      clear e0 e3 e6 e7 e8 e40 hsz hd
      have HB2 := Lib.hid (HB.out.call hS)
      cases hls : lsP x.p p with
      | true =>
        repeat' (first | go_values | go_skip | go_guarded | go_step | go_upon)
        go_step3
        exact ⟨2 * (t - m) - 1, by omega, rfl, rfl, rfl, rfl, HB2.out, f, t, by simp, by simp, HI.out, .inr ⟨rfl, m, x, by simp, (HLO.out hls).1, (HLO.out hls).2.1, (HLO.out hls).2.2.1, hls, rfl⟩⟩
      | false =>
        repeat' (first | go_values | go_skip | go_guarded | go_step | go_upon)
        go_step3
        exact ⟨2 * (m - f), by omega, rfl, rfl, rfl, rfl, HB2.out, f, m, by simp, by simp, HHI.out hls, .inl ⟨rfl, rfl⟩⟩
set_option maxRecDepth 20000 in
set_option maxHeartbeats 4000000 in
theorem seek_any {w : World} {L : List Sl} {B c : Nat} {A : Option Addr} (p : Pl) (h : Rd w B 9 A L.length (rwc L)) (hB : B ≤ w.heap.size) (hl : L.length ≤ 100000) (hc : L.length ≤ c) (hU : Up L) :
    Calls Tryd.prog 27 #[.slice A L.length c, .agg (plc p).toArray] w fun e W => e = .returned (.tuple #[.int .i64 (kth p L), .bool (hasP p L)]) ∧ Below w.heap.size w W := by
  have HR := Lib.hid h
  have HU := Lib.hid hU
  have HBB := Lib.hid hB
  obtain ⟨n, hn⟩ : ∃ n, n = L.length := ⟨_, rfl⟩
  have HN := Lib.hid hn
  rw [← hn] at hl hc ⊢
  have HL := Lib.hid hl
  have HCC := Lib.hid hc
  clear h hU hB hn hl hc
  have HB : Hid (BX w [] w) := Lib.hid (BX.start w)
  go_enter Tryd.func27, Tryd.ntmps27
  repeat' (first | ((with_reducible show Oper.wp _ _ _ _ _ _); (first | (with_reducible refine is_bx 40 _ rfl ?_; refine bx_pl HB _ rfl rfl ?_) | (with_reducible refine is_bx 32 _ rfl ?_; refine bx_va HB _ rfl rfl ?_) | (with_reducible refine is_bx 28 _ rfl ?_; refine bx_en HB _ rfl rfl ?_) | (with_reducible refine is_bx 44 _ rfl ?_; refine bx_sl HB _ rfl rfl ?_)); clear HB; (first | (have _t : Nat := g10; clear _t; intro g11 W HB) | (have _t : Nat := g9; clear _t; intro g10 W HB) | (have _t : Nat := g8; clear _t; intro g9 W HB) | (have _t : Nat := g7; clear _t; intro g8 W HB) | (have _t : Nat := g6; clear _t; intro g7 W HB) | (have _t : Nat := g5; clear _t; intro g6 W HB) | (have _t : Nat := g4; clear _t; intro g5 W HB) | (have _t : Nat := g3; clear _t; intro g4 W HB) | (have _t : Nat := g2; clear _t; intro g3 W HB) | (have _t : Nat := g1; clear _t; intro g2 W HB) | (have _t : Nat := g0; clear _t; intro g1 W HB) | intro g0 W HB); go_simp) | go_values | go_skip | go_guarded | go_step | go_upon)
  rename_i Q'
  have hQ : ∀ a W, SkF w L p a W → Q' .ret a W := by
    rintro a W ⟨hd, e4, e5, hb⟩
    rw [Array.getD_eq_getD_getElem?] at e4 e5
    refine bodyPost_ret (v := .tuple #[.int .i64 (kth p L), .bool (hasP p L)]) ?_ hd ⟨rfl, hb⟩
    simp [results, Tryd.results27, go_sem, e4, e5]
  clear_value Q'
  refine wp_scope_ghost (SkJ w L p A n c g0) ?_ ?_
  · repeat' (first | go_values | go_skip | go_guarded | go_step | go_upon)
    go_step3
    rename_i Kk hKk
    refine hKk _ _ (wp_mono (sk_pass0 HR HBB HN HL HCC HU hQ (gp := g0) (g := 2 * (n - 0)) rfl rfl ?_) ?_)
    · exact ⟨rfl, rfl, rfl, rfl, HB.out, 0, n, by simp, rfl, by rw [HN.out]; exact ski_0 L p, .inl ⟨rfl, rfl⟩⟩
    · intro e a W hq
      cases e with
      | goto l =>
        obtain ⟨g', h1, h⟩ := hq
        exact ⟨g', h⟩
      | _ => exact hq
  · intro g l a W hJ
    have hl : l = 0 ∨ l = 1 := by
      obtain ⟨-, -, -, -, -, f, t, -, -, -, h⟩ := hJ
      rcases h with ⟨h, -⟩ | ⟨h, -⟩
      · exact .inl h
      · exact .inr h
    rcases hl with rfl | rfl
    · refine ⟨_, rfl, wp_seq (wp_skip (wp_mono (sk_pass0 HR HBB HN HL HCC HU hQ rfl rfl hJ) ?_))⟩
      intro e a W hq
      cases e with
      | goto l =>
        obtain ⟨g', h1, h⟩ := hq
        exact ⟨g', h1, h⟩
      | _ => exact hq
    · refine ⟨_, rfl, wp_seq (wp_skip (wp_mono (sk_pass1 HR HBB HN HL HCC HU hQ rfl rfl hJ) ?_))⟩
      intro e a W hq
      cases e with
      | goto l =>
        obtain ⟨g', h1, h⟩ := hq
        exact ⟨g', h1, h⟩
      | _ => exact hq
end Go.Proofs.YtkjiokepihmpfaaDoor

