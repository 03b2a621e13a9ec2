/- fun.extreme by its contract. Condition: values may be. -/
import Derived.Test.YtngkolcpbgibcaaGreatDoorN2
set_option linter.unusedVariables false
set_option linter.unusedSimpArgs false
namespace Go.Proofs.YtngkolcpbgibcaaGreatDoor
open Go.RowKit
theorem exK_first {way : Int} {l : List DP} {k : Nat} {d : DP} (hd : l[k]? = some d) (hk : k = 0) : exK way l (k + 1) = d := by
  rw [exK_next hd, if_pos (.inl hk)]
theorem exK_yes {way : Int} {l : List DP} {k : Nat} {d : DP} (hd : l[k]? = some d) (h : cmp (val d.1 d.2) (val (exK way l k).1 (exK way l k).2) = way) : exK way l (k + 1) = d := by
  rw [exK_next hd, if_pos (.inr h)]
theorem exK_no {way : Int} {l : List DP} {k : Nat} {d : DP} (hd : l[k]? = some d) (hk : ¬ k = 0) (h : ¬ cmp (val d.1 d.2) (val (exK way l k).1 (exK way l k).2) = way) : exK way l (k + 1) = exK way l k := by
  rw [exK_next hd, if_neg (fun e => e.elim hk h)]
set_option maxRecDepth 20000 in
set_option maxHeartbeats 8000000 in
theorem extreme_any {w : World} {way : Int} {A : Option Addr} {c : Nat} {args : List (Bool × List VX)} (h : RowF argF w (· < w.heap.size) A args.length args) (hal : args.length ≤ 1000000) (hvl : ∀ a ∈ args, a.2.length ≤ 1000000) (hP : ∀ a ∈ args, ∀ x ∈ a.2, PV x) (hG : ∀ x ∈ pickL [1] args, GdX x) :
    Calls Tryz.prog 42 #[.slice A args.length c, .int .i64 way] w fun e W => e = .returned (.agg (vc (exN way (nsX (pickL [1] args)))).toArray) ∧ Below w.heap.size w W := by
  have HA := Lib.hid (fun (W : World) (hW : Below w.heap.size w W) => all_call (c := c) h hal hvl hP hW); have HB := Lib.hid (BX.start w); have hg0 := Lib.hid (fun d => nsX_gd (d := d) hG); have hpl : Hid ((pickL [1] args).length ≤ 1000000000000) := Lib.hid (Nat.le_trans (pickL_len (ks := [1]) hvl) (by omega)); clear h hvl hP hG
  cases hns : nsX (pickL [1] args) with
  | no v =>
    rw [hns] at HA; simp only [nsV] at HA; simp only [exN]; clear hns; go_enter Tryz.func42, Tryz.ntmps42
    repeat' (first | ((with_reducible show Oper.wp _ _ _ _ _ _); refine al_v HB rfl ?_; clear HB; intro g0 W HB; go_simp) | go_values | go_skip | go_guarded | go_step | go_upon)
    refine (HA.out _ HB.out.bel).mono ?_; rintro e W1 ⟨rfl, hb⟩; have HB := Lib.hid (HB.out.call hb); clear hb; dsimp only
    repeat' (first | ((with_reducible show Oper.wp _ _ _ _ _ _); (first | (refine al_v HB rfl ?_; clear HB; intro g1 W HB; go_simp) | (refine ld_v 0 HB rfl _ rfl rfl ?_; go_simp) | ((first | refine st_v 0 HB rfl _ _ rfl rfl rfl ?_ | refine st_v 1 HB rfl _ _ rfl rfl rfl ?_); clear HB; intro W HB; dsimp only [List.set] at HB; go_simp))) | go_values | go_skip | go_guarded | go_step | go_upon)
    exact bodyPost_ret (res_v rfl HB (i := 1) rfl rfl) rfl ⟨rfl, HB.out.bel⟩
  | ok ds =>
    have hg := hg0.out ds hns
    have hdl : ds.length ≤ 1000000000000 := by
      have h1 := nsX_len hns; have h2 := hpl.out; omega
    rw [hns] at HA; simp only [nsV] at HA; simp only [exN]; clear hns hg0 hal hpl
    have HM : Hid (∀ (k : Nat) (d : DP) (W : World), ds[k]? = some d → Calls Tryz.prog 33 #[.agg (dc d.1 d.2).toArray, .agg (dc (exK way ds k).1 (exK way ds k).2).toArray] W fun e W' => e = .returned (.int .i64 (cmp (val d.1 d.2) (val (exK way ds k).1 (exK way ds k).2))) ∧ Below W.heap.size W W') := Lib.hid fun k d W hd =>
      cmp_r (hg d (List.mem_of_getElem? hd)) (exK_gd hg k) W
    clear hg; go_enter Tryz.func42, Tryz.ntmps42
    repeat' (first | ((with_reducible show Oper.wp _ _ _ _ _ _); refine al_v HB rfl ?_; clear HB; intro g0 W HB; go_simp) | go_values | go_skip | go_guarded | go_step | go_upon)
    refine (HA.out _ HB.out.bel).mono ?_; rintro e W1 ⟨A', c', rows, rfl, hc', hr, hb⟩; have HB := Lib.hid (HB.out.tail hb hr); have HR := Lib.hid hr.rd; clear hb hr HA; dsimp only
    repeat' (first | ((with_reducible show Oper.wp _ _ _ _ _ _); (first | (refine al_v HB rfl ?_; clear HB; intro g1 W HB; go_simp) | (refine st_v 0 HB rfl _ _ rfl rfl rfl ?_; clear HB; intro W HB; dsimp only [List.set] at HB; go_simp) | (apply stop_bd; exact rfl))) | go_values | go_skip | go_guarded | go_step | go_upon)
    refine Lib.hid ?_; refine wp_b (v := .agg (dc 0 (0 : Nat)).toArray) (by kernel_rfl) ?_; go_simp
    repeat' (first | ((with_reducible show Oper.wp _ _ _ _ _ _); (first | (refine al_d HB rfl ?_; clear HB; intro g2 W HB; go_simp) | (refine st_d 0 HB rfl _ _ rfl rfl rfl ?_; clear HB; intro W HB; dsimp only [List.set] at HB; go_simp))) | go_values | go_skip | go_guarded | go_step | go_upon)
    go_loopw [23] (fun i wr => ∃ k : Nat, k ≤ ds.length ∧ i = .int .i64 k ∧ Hid (BX w ((g2, 30, dc (exK way ds k).1 ((exK way ds k).2 : Nat)) :: (g1, 32, vc .blank) :: (g0, 32, vc .blank) :: rows) wr)) (fun i _ => ds.length - (intOf i).toNat)
    case atStart => exact ⟨0, Nat.zero_le _, rfl, HB⟩
    case round =>
      clear HB; obtain ⟨k, hk, rfl, HB⟩ := hrel
      by_cases hlt : k < ds.length
      · have hlt' : (k : Int) < (ds.length : Int) := by omega
        have hk0 : (0 : Int) ≤ (k : Int) := by omega
        obtain ⟨⟨m, s⟩, hd⟩ : ∃ d, ds[k]? = some d := ⟨_, List.getElem?_eq_getElem hlt⟩
        obtain ⟨aa, rfl, hc⟩ := HR.out wr (fun b hb => HB.out.bk b (List.mem_cons_of_mem _ (List.mem_cons_of_mem _ (List.mem_cons_of_mem _ hb)))) k _ hd; have HC := Lib.hid (fun W => HM.out k _ W hd); have HQ := Lib.hid hc; have HD := Lib.hid hd; clear hc hd
        by_cases h0 : k = 0
        · have HE := Lib.hid (exK_first (way := way) HD.out h0); have h0' : ((k : Int) == 0) = true := by rw [h0]; rfl
          clear h0
          repeat' (first | ((with_reducible show Oper.wp _ _ _ _ _ _); refine stop_ld (ty := 30) _ rfl ?_) | go_values | go_skip | go_guarded | go_step | go_upon)
          refine Lib.hid ?_; refine ldm_d m (s : Nat) _ rfl rfl HQ.out ?_; go_simp
          repeat' (first | ((with_reducible show Oper.wp _ _ _ _ _ _); (first | (refine al_d HB rfl ?_; clear HB; intro g3 W HB; go_simp) | (refine ld_d 0 HB rfl _ rfl rfl ?_; go_simp) | ((first | refine st_d 0 HB rfl _ _ rfl rfl rfl ?_ | refine st_d 1 HB rfl _ _ rfl rfl rfl ?_); clear HB; intro W HB; dsimp only [List.set] at HB; go_simp))) | go_values | go_skip | go_guarded | go_step | go_upon)
          have HB := Lib.hid (HB.out.some_ (List.sublist_cons_self _ _))
          go_roundw
          case rel => exact ⟨k + 1, by omega, by go_num, by rw [HE.out]; exact HB⟩
          case measure => simp [intOf]; omega
        · have h0' : ((k : Int) == 0) = false := by rw [beq_eq_false_iff_ne]; omega
          by_cases hy : cmp (val m s) (val (exK way ds k).1 (exK way ds k).2) = way
          · have HE := Lib.hid (exK_yes HD.out hy); have hy' : (cmp (val m s) (val (exK way ds k).1 (exK way ds k).2) == way) = true := by simpa using hy
            clear h0 hy; dsimp only at HC; generalize cmp (val m s) (val (exK way ds k).1 (exK way ds k).2) = z at *
            repeat' (first | ((with_reducible show Oper.wp _ _ _ _ _ _); refine stop_ld (ty := 30) _ rfl ?_) | go_values | go_skip | go_guarded | go_step | go_upon)
            refine Lib.hid ?_; refine ldm_d m (s : Nat) _ rfl rfl HQ.out ?_; go_simp
            repeat' (first | ((with_reducible show Oper.wp _ _ _ _ _ _); (first | (refine al_d HB rfl ?_; clear HB; intro g3 W HB; go_simp) | ((first | refine ld_d 0 HB rfl _ rfl rfl ?_ | refine ld_d 1 HB rfl _ rfl rfl ?_); go_simp) | (refine st_d 0 HB rfl _ _ rfl rfl rfl ?_; clear HB; intro W HB; dsimp only [List.set] at HB; go_simp))) | go_values | go_skip | go_guarded | go_step | go_upon)
            refine (HC.out _).mono ?_; rintro e W1 ⟨rfl, hb⟩; have HB := Lib.hid (HB.out.call hb); clear hb; dsimp only
            repeat' (first | ((with_reducible show Oper.wp _ _ _ _ _ _); (first | (refine ld_d 0 HB rfl _ rfl rfl ?_; go_simp) | (refine st_d 1 HB rfl _ _ rfl rfl rfl ?_; clear HB; intro W HB; dsimp only [List.set] at HB; go_simp))) | go_values | go_skip | go_guarded | go_step | go_upon)
            have HB := Lib.hid (HB.out.some_ (List.sublist_cons_self _ _))
            go_roundw
            case rel => exact ⟨k + 1, by omega, by go_num, by rw [HE.out]; exact HB⟩
            case measure => simp [intOf]; omega
          · have HE := Lib.hid (exK_no HD.out h0 hy); have hy' : (cmp (val m s) (val (exK way ds k).1 (exK way ds k).2) == way) = false := by simpa using hy
            clear h0 hy; dsimp only at HC; generalize cmp (val m s) (val (exK way ds k).1 (exK way ds k).2) = z at *
            repeat' (first | ((with_reducible show Oper.wp _ _ _ _ _ _); refine stop_ld (ty := 30) _ rfl ?_) | go_values | go_skip | go_guarded | go_step | go_upon)
            refine Lib.hid ?_; refine ldm_d m (s : Nat) _ rfl rfl HQ.out ?_; go_simp
            repeat' (first | ((with_reducible show Oper.wp _ _ _ _ _ _); (first | (refine al_d HB rfl ?_; clear HB; intro g3 W HB; go_simp) | ((first | refine ld_d 0 HB rfl _ rfl rfl ?_ | refine ld_d 1 HB rfl _ rfl rfl ?_); go_simp) | (refine st_d 0 HB rfl _ _ rfl rfl rfl ?_; clear HB; intro W HB; dsimp only [List.set] at HB; go_simp))) | go_values | go_skip | go_guarded | go_step | go_upon)
            refine (HC.out _).mono ?_; rintro e W1 ⟨rfl, hb⟩; have HB := Lib.hid (HB.out.call hb); clear hb; dsimp only
            repeat' (first | go_values | go_skip | go_guarded | go_step | go_upon)
            have HB := Lib.hid (HB.out.some_ (List.sublist_cons_self _ _))
            go_roundw
            case rel => exact ⟨k + 1, by omega, by go_num, by rw [HE.out]; exact HB⟩
            case measure => simp [intOf]; omega
      · obtain rfl : k = ds.length := by omega
        clear HM; obtain ⟨r, hr⟩ : ∃ r, exK way ds ds.length = r := ⟨_, rfl⟩
        have HV := Lib.hid hr; rw [hr] at HB; clear hr
        repeat' (first | ((with_reducible show Oper.wp _ _ _ _ _ _); refine ld_d 0 HB rfl _ rfl rfl ?_; go_simp) | go_values | go_skip | go_guarded | go_step | go_upon)
        refine (fNumber_any r.1 r.2).mono ?_; rintro e W1 ⟨rfl, hb⟩; have HB := Lib.hid (HB.out.call hb); clear hb; dsimp only
        repeat' (first | ((with_reducible show Oper.wp _ _ _ _ _ _); refine st_v 2 HB rfl _ _ rfl rfl rfl ?_; clear HB; intro W HB; dsimp only [List.set] at HB; go_simp) | go_values | go_skip | go_guarded | go_step | go_upon)
        rw [HV.out]; exact bodyPost_ret (res_v rfl HB (i := 2) rfl rfl) rfl ⟨rfl, HB.out.bel⟩
end Go.Proofs.YtngkolcpbgibcaaGreatDoor
