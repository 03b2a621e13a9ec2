/- ptg.way.next, by their contracts. Condition: the way reads as steps. -/
import Derived.Test.YtlaiocdnddnnaaaGreatDoorRs12
import Derived.Test.YtlaiocdnddnnaaaGreatDoorNf
import Derived.Test.YtlaiocdnddnnaaaGreatDoorDr
import Derived.Test.YtlaiocdnddnnaaaGreatDoorLast
import Derived.StillTailTactics
import Derived.BigQuiet
set_option linter.unusedVariables false
set_option linter.unusedSimpArgs false
namespace Go.Proofs.YtlaiocdnddnnaaaGreatDoor
open Go.RowKit
theorem stepRow : ElemRow Tryz.prog 74 72 (.agg (sc zp (.slice none 0 0) 0).toArray) 19 160 := by
  obtain ⟨i, hi, h0, h1, h2⟩ := info_parts (P := Tryz.prog) (e := 72) (z := .agg (sc zp (.slice none 0 0) 0).toArray) (size := 19) (bytes := 160) (by kernel_rfl); exact ⟨Tryz.underlying74, ⟨i, hi, h0, h1, h2⟩, rfl, by omega⟩
section
variable {o : Oper} {a : Act} {W : World} {K : Act → World → Prop} {Q : Exit → Act → World → Prop}
theorem st_cell {b off : Nat} {z : Int} {u0 : Value} (x y : Operand) (ho : o.op = .store 3 x y) (hx : a.eval x = .pointer (some ⟨b, off, none⟩)) (hy : a.eval y = .int .i64 z) (c : W.cell? ⟨b, off, none⟩ = some u0) (f : W.frozen? ⟨b, off, none⟩ = false)
    (h : ∀ W2, W2 = W.setCell ⟨b, off, none⟩ (.int .i64 z) → K (a.put o.dst undef) W2) : o.wp Tryz.prog a W K Q := by
  have h2 := h _ rfl; unfold Oper.wp execOp; rw [ho]; simp only [hx, hy]; clear ho hx hy h; go_simp; exact h2
theorem st_hdr {g : Nat} {b : Option Addr} {n c : Nat} {u0 : Value} (x y : Operand) (ho : o.op = .store 74 x y) (hx : a.eval x = .pointer (some ⟨g, 0, none⟩)) (hy : a.eval y = .slice b n c) (cc : W.cell? ⟨g, 0, none⟩ = some u0) (f : W.frozen? ⟨g, 0, none⟩ = false)
    (h : ∀ W2, W2 = W.setCell ⟨g, 0, none⟩ (.slice b n c) → K (a.put o.dst undef) W2) : o.wp Tryz.prog a W K Q := by
  have h2 := h _ rfl; unfold Oper.wp execOp; rw [ho]; simp only [hx, hy]; clear ho hx hy h; go_simp; exact h2
end
theorem run_step {a : Act} {o : Oper} {W : World} {q : Pay} {A : Option Addr} {n c : Nat} (x : Operand) (ho : o.op = .build 72 #[(0, x)]) (hx : a.eval x = .agg (ec q (.slice A n c)).toArray) : (execOp a.eval o).run Tryz.prog W = .ok (.value (.agg (sc q (.slice A n c) 0).toArray)) W := by
  unfold execOp; simp only [ho, List.map_toArray, List.map_cons, List.map_nil, hx]; clear ho hx
  kernel_rfl
theorem run_steps {a : Act} {o : Oper} {W : World} {q : Pay} {A : Option Addr} {n c : Nat} (x : Operand) (ho : o.op = .buildSlice 74 1 #[(0, x)]) (hx : a.eval x = .agg (sc q (.slice A n c) 0).toArray) : (execOp a.eval o).run Tryz.prog W = .ok (.value (.slice (some ⟨W.heap.size, 0, none⟩) 1 1)) (W.alloc (.cells (sc q (.slice A n c) 0).toArray 72)) := by
  unfold execOp; simp only [ho, List.map_toArray, List.map_cons, List.map_nil, hx]; clear ho hx
  kernel_rfl
theorem wp_copy {P : Program} {o : Oper} {a : Act} {W : World} {K : Act → World → Prop} {Q : Exit → Act → World → Prop} {t : Tmp} (ho : o.op = .assign (.tmp t)) (h : K (a.put o.dst (a.tmps.getD t undef)) W) : o.wp P a W K Q := by
  unfold Oper.wp execOp; rw [ho]; exact h
theorem rem_len : ∀ L : List Wst, L.length ≤ (remS L).length
  | [] => Nat.le_refl _
  | s :: r => by
    have := rem_len r; simp only [remS, List.length_append, List.length_cons]; omega
theorem len_cnt (l : List Tr) : l.length ≤ cntL l := by
  have h1 := rem_len []
  induction l with
  | nil => exact Nat.zero_le _
  | cons t r ih =>
    cases t with
    | mk p ks =>
      simp only [cntL, cntT, List.length_cons]; omega
theorem rem_top (s : Wst) (r : List Wst) : cntL (s.ks.drop s.gone) + r.length + 1 ≤ (remS (s :: r)).length := by
  have h1 := rem_len r; have h2 := po_lenL (s.ks.drop s.gone); simp only [remS, List.length_append, List.length_cons]; omega
theorem row_cell {W : World} {base n cc b k j : Nat} {e : TypeId} {S : List (List Value × Wst)} {x : List Value × Wst} {u : Value} (ho : W.ownsRow base e 19 (.slice (some ⟨b, 0, none⟩) n cc) n (S.flatMap (·.1))) (hS : ∀ p ∈ S, p.1.length = 19) (hx : S[k]? = some x) (hu : x.1[j]? = some u) (hn : 0 < n) : W.cell? ⟨b, k * 19 + j, none⟩ = some u := by
  obtain ⟨A2, c2, e, hc2, -, hrd⟩ := own_form ho; injection e with e; subst e; obtain ⟨a2, ha2, -, hcell⟩ := hrd.at_ hn; injection ha2 with ha2; subst ha2; have := hcell (k * 19 + j) u (flat_get hS hx hu)
  rwa [addr_zero] at this
def WnJ (w1 : World) (B base g r : Nat) (v : Value) (T : List (Pay × Nat)) (gh lb : Nat) (a : Act) (W : World) : Prop :=
  lb = 0 ∧ a.defers = [] ∧ a.tmps.size = 63 ∧ a.tmps.getD 0 undef = .pointer (some ⟨g, 0, none⟩) ∧ a.tmps.getD 2 undef = .pointer (some ⟨r, 0, none⟩) ∧
    ∃ (l : Value) (Lb : List Wst) (s : Wst), a.tmps.getD 4 undef = l ∧ OwnF stpF W (· < B) base 72 l (Lb ++ [s]) ∧ Bk W g 74 #[v] ∧ Bk W r 47 (ec zp (.slice none 0 0)).toArray ∧ Keep (ApT g v) w1 W ∧ Lies w1 v l ∧ remS (Lb ++ [s]).reverse = T ∧ cntL (s.ks.drop s.gone) < gh ∧ ∀ x ∈ Lb ++ [s], x.ks.length ≤ 100000
def WnF (w1 : World) (B base g r : Nat) (v : Value) (T : List (Pay × Nat)) (a : Act) (W : World) : Prop :=
  a.defers = [] ∧ a.tmps[3]? = some (.bool true) ∧ a.tmps[2]? = some (.pointer (some ⟨r, 0, none⟩)) ∧ ∃ (p : Pay) (n : Nat) (A : Option Addr) (c : Nat) (v' : Value) (L' : List Wst), T = (p, n) :: remS L'.reverse ∧ Bk W r 47 (ec p (.slice A n c)).toArray ∧ Bk W g 74 #[v'] ∧ OwnF stpF W (· < B) base 72 v' L' ∧ Keep (fun i => ApT g v i ∨ i = r) w1 W ∧ Lies w1 v v' ∧ ∀ x ∈ L', x.ks.length ≤ 100000
set_option maxRecDepth 20000 in
set_option maxHeartbeats 1000000 in
theorem wn_pass {w1 : World} {B base g r gh : Nat} {v : Value} {T : List (Pay × Nat)} (HTL : Hid (T.length ≤ 100000)) (HG : Hid (B ≤ base ∧ B ≤ g ∧ g ≠ r ∧ base ≤ w1.heap.size ∧ r < w1.heap.size ∧ B ≤ w1.heap.size ∧ g < w1.heap.size ∧ B ≤ r)) {Q : Exit → Act → World → Prop} (hQ : ∀ a W, WnF w1 B base g r v T a W → Q .ret a W) {r0 body rest : Code}
    (hbody : Tryz.f25.body = some (.seq r0 (.scope body))) (hr : findLabel body 0 = some (.seq .skip rest)) {a : Act} {W : World} (hJ : WnJ w1 B base g r v T gh 0 a W) :
    rest.wp Tryz.prog (Exit.jumps (fun l' a' W' => ∃ g', g' < gh ∧ WnJ w1 B base g r v T g' l' a' W') Q) a W := by
  unfold Tryz.f25 at hbody; simp only [Option.some.injEq] at hbody; have hb2 := Code.scope.inj (Code.seq.inj hbody).2; clear hbody; subst hb2; injection hr with hr; injection hr with _ hr; subst hr; obtain ⟨-, hd, hsz, e0, e2, l, Lb, s, e4, hO, hkg, hkr, hK, hl, hT, hgh, hlen⟩ := hJ; rw [act_lit 63 a hd hsz]; simp only [List.range, List.range.loop, List.map, e0, e2, e4]; clear hd hsz e0 e2 e4; generalize a.tmps.getD 1 undef = y1, a.tmps.getD 3 undef = y3, a.tmps.getD 5 undef = y5, a.tmps.getD 6 undef = y6, a.tmps.getD 7 undef = y7, a.tmps.getD 8 undef = y8, a.tmps.getD 9 undef = y9, a.tmps.getD 10 undef = y10, a.tmps.getD 11 undef = y11, a.tmps.getD 12 undef = y12, a.tmps.getD 13 undef = y13, a.tmps.getD 14 undef = y14, a.tmps.getD 15 undef = y15, a.tmps.getD 16 undef = y16, a.tmps.getD 17 undef = y17, a.tmps.getD 18 undef = y18, a.tmps.getD 19 undef = y19, a.tmps.getD 20 undef = y20, a.tmps.getD 21 undef = y21, a.tmps.getD 22 undef = y22, a.tmps.getD 23 undef = y23, a.tmps.getD 24 undef = y24, a.tmps.getD 25 undef = y25, a.tmps.getD 26 undef = y26, a.tmps.getD 27 undef = y27, a.tmps.getD 28 undef = y28, a.tmps.getD 29 undef = y29, a.tmps.getD 30 undef = y30, a.tmps.getD 31 undef = y31, a.tmps.getD 32 undef = y32, a.tmps.getD 33 undef = y33, a.tmps.getD 34 undef = y34, a.tmps.getD 35 undef = y35, a.tmps.getD 36 undef = y36, a.tmps.getD 37 undef = y37, a.tmps.getD 38 undef = y38, a.tmps.getD 39 undef = y39, a.tmps.getD 40 undef = y40, a.tmps.getD 41 undef = y41, a.tmps.getD 42 undef = y42, a.tmps.getD 43 undef = y43, a.tmps.getD 44 undef = y44, a.tmps.getD 45 undef = y45, a.tmps.getD 46 undef = y46, a.tmps.getD 47 undef = y47, a.tmps.getD 48 undef = y48, a.tmps.getD 49 undef = y49, a.tmps.getD 50 undef = y50, a.tmps.getD 51 undef = y51, a.tmps.getD 52 undef = y52, a.tmps.getD 53 undef = y53, a.tmps.getD 54 undef = y54, a.tmps.getD 55 undef = y55, a.tmps.getD 56 undef = y56, a.tmps.getD 57 undef = y57, a.tmps.getD 58 undef = y58, a.tmps.getD 59 undef = y59, a.tmps.getD 60 undef = y60, a.tmps.getD 61 undef = y61, a.tmps.getD 62 undef = y62; obtain ⟨SS, hSm, hSR, hSo⟩ := hO.ex; obtain ⟨k, hk0⟩ : ∃ k, k = Lb.length := ⟨_, rfl⟩
  have hln : (Lb ++ [s]).length = k + 1 := by rw [hk0]; simp
  have HKL := Lib.hid hk0; rw [hln] at hSo; have hgb : s.gone ≤ 200000 ∨ 100000 < s.gone := by omega
  have hlt : k + 1 + cntL (s.ks.drop s.gone) ≤ 100000 := by
    have h1 := rem_top s Lb.reverse; have h2 := HTL.out; rw [← hT, List.reverse_append] at h2; simp only [List.reverse_singleton, List.singleton_append] at h2; rw [List.length_reverse] at h1; omega
  obtain ⟨b, cc, rfl, hbb, ⟨cur, hbk⟩, hcc, hcm⟩ : ∃ b cc, l = .slice (some ⟨b, 0, none⟩) (k + 1) cc ∧ base ≤ b ∧ (∃ cur, Bk W b 72 cur) ∧ k + 1 ≤ cc ∧ cc ≤ maxLen := by
    rcases hSo.2 with ⟨h1, h2⟩ | ⟨b, cap, cur, h1, hb, hg, hnc, hm, hs, ht⟩
    · have := hSo.1; rw [h2] at this; simp only [List.length_nil, stpF] at this; omega
    · exact ⟨b, cap, h1, hb, ⟨cur, hg⟩, hnc, hm⟩
  have hSk : SS[k]?.map (·.2) = some s := by
    rw [← List.getElem?_map, hSm, hk0]; simp
  obtain ⟨⟨cs, s'⟩, hx, e⟩ := Option.map_eq_some_iff.1 hSk; simp only at e; subst e; obtain ⟨A1, c1, hcs, hc1, hkr1⟩ := hSR _ (List.mem_of_getElem? hx); simp only at hcs hc1 hkr1; subst hcs; have hall : ∀ (j : Nat) (u : Value), (sc s'.p (.slice A1 s'.ks.length c1) s'.gone)[j]? = some u → W.cell? ⟨b, k * 19 + j, none⟩ = some u := fun j u hu => row_cell hSo (fun p hp => stpF.len (hSR p hp)) hx hu (Nat.succ_pos _); have c17 : W.cell? ⟨b, k * 19 + 17, none⟩ = some (.slice A1 s'.ks.length c1) := hall 17 _ rfl; have c18 : W.cell? ⟨b, k * 19 + 18, none⟩ = some (.int .i64 s'.gone) := hall 18 _ rfl; have hkb : k ≤ 100000 := by omega
  have hkl : s'.ks.length ≤ 100000 := hlen s' (by simp); have HLT := Lib.hid hlt; clear hlt hgb; have z18 : W.frozen? ⟨b, k * 19 + 18, none⟩ = false := hbk.frozen _; have hbg : b ≠ g := fun e => by subst e; exact own_ne hSo hkg (by decide) rfl
  have hbr : b ≠ r := fun e => by subst e; exact own_ne hSo hkr (by decide) rfl
  have hbB : B ≤ b := by have := HG.out.1; omega
  have hlb : b < w1.heap.size → ApT g v b := fun hi => .inr (hl.old hi rfl); have hSl : SS.length = k + 1 := by rw [← hln, ← hSm, List.length_map]
  have HX := Lib.hid (And.intro hSm (And.intro hSR (And.intro hSo (And.intro hx (And.intro hbk (And.intro hkg (And.intro hkr (And.intro hK (And.intro hl (And.intro hT (And.intro hgh (And.intro hlen (And.intro hall (And.intro hbb (And.intro hcc (And.intro hcm (And.intro hSl (And.intro hbg (And.intro hbr (And.intro hbB (And.intro hlb (And.intro hc1 hkr1)))))))))))))))))))))); have HQ := Lib.hid hQ; have hgk : W.cell? ⟨g, 0, none⟩ = some v := hkg.cell 0; have hgf := hkg.frozen 0; clear hSm hSR hSo hx hbk hkg hkr hK hl hT hgh hlen hall hbb hcc hcm hSl hbg hbr hbB hlb hc1 hO hk0 hln hSk hQ
  by_cases hgo : s'.gone < s'.ks.length
  · obtain ⟨⟨q, us⟩, hq⟩ : ∃ x, s'.ks[s'.gone]? = some x := ⟨_, List.getElem?_eq_getElem hgo⟩
    obtain ⟨a1, rfl, hab, hcl⟩ := hkr1.at_ (by omega); obtain ⟨cq, hcq, hqc⟩ := hcl _ _ hq; obtain ⟨A2, c2, rfl, hc2, hkr2⟩ := tree_mk.1 (show LiT W (· < B) (.mk q us) cq from hcq)
    have HQC : Hid ((∀ (j : Nat) (u : Value), (ec q (.slice A2 us.length c2))[j]? = some u → W.cell? ((a1.add (s'.gone * 18)).add j) = some u) ∧ a1.block < B ∧ us.length ≤ c2 ∧ RowF treeF W (· < B) A2 us.length us) := Lib.hid ⟨fun j u hu => by
      rw [add_add]
      exact hqc j u hu, hab, hc2, hkr2⟩
    have HQQ := Lib.hid hq; have hgo' : (s'.gone : Int) < (s'.ks.length : Int) := by omega
    have hgb : s'.gone ≤ 100000 := by omega
    clear hkr1 hcl hcq hqc hkr2 hc2 hab hq
    repeat' (first | go_values | go_skip | go_guarded | go_step | go_upon)
    go_quiet (fail)
    repeat' (first | ((with_reducible show Oper.wp _ _ _ _ _ _); with_reducible refine stop_st _ _ rfl ?_) | go_values | go_skip | go_guarded | go_step | go_upon)
    refine Lib.hid ?_; refine st_cell _ _ rfl rfl rfl c18 z18 ?_; intro W2 hW2; obtain ⟨hSm, hSR, hSo, hx, hbk, hkg, hkr, hK, hl, hT, hgh, hks, hall, hbb, hcc, hcm, hSl, hbg, hbr, hbB, hlb, hc1⟩ := HX.out; have HXX := HX; have hK2 : Keep (fun i => i = b) W W2 := by rw [hW2]; exact (show Keep (fun i => i = b) W (W.drewN _) from ⟨rfl, rfl, rfl, Nat.le_refl _, fun _ _ _ => rfl⟩).setCell (p := ⟨b, k * 19 + 18, none⟩) (fun _ => rfl) _
    have hb2 : Below B W W2 := hK2.below (B := B) (by have := hbk.lt; omega) fun i hi e => by omega
    have hSS : (SS.flatMap (·.1)).set (k * 19 + 18) (.int .i64 ((s'.gone : Int) + 1)) = (SS.set k (sc s'.p (.slice (some a1) s'.ks.length c1) (s'.gone + 1), { s' with gone := s'.gone + 1 })).flatMap (·.1) := by
      have := flat_set (k := 19) (j := 18) (by decide) (.int .i64 ((s'.gone : Int) + 1)) ({ s' with gone := s'.gone + 1 } : Wst) (fun p hp => stpF.len (hSR p hp)) hx; rw [this]; rfl
    have ho2 : W2.ownsRow base 72 19 (.slice (some ⟨b, 0, none⟩) (k + 1) cc) (k + 1) ((SS.set k (sc s'.p (.slice (some a1) s'.ks.length c1) (s'.gone + 1), { s' with gone := s'.gone + 1 })).flatMap (·.1)) := by
      rw [← hSS, hW2]; exact own_putk (W := W.drewN _) hSo
    have hR2 : ∀ p ∈ SS.set k (sc s'.p (.slice (some a1) s'.ks.length c1) (s'.gone + 1), { s' with gone := s'.gone + 1 }), stpF.R W2 (· < B) p.1 p.2 := fun p hp => by
      have hmv : Move W (· < B) W2 (· < B) := Move.of_below hb2 (fun i hi => hi) fun i hi => hi
      rcases List.mem_or_eq_of_mem_set hp with hp | rfl
      · exact stpF.move hmv (hSR p hp)
      · exact ⟨some a1, c1, rfl, hc1.1, hc1.2.move hmv⟩
    have hm2 : (SS.set k (sc s'.p (.slice (some a1) s'.ks.length c1) (s'.gone + 1), { s' with gone := s'.gone + 1 })).map (·.2) = Lb ++ [{ s' with gone := s'.gone + 1 }] := by
      rw [List.map_set, hSm, HKL.out]; simp
    have hkg2 := hK2.bk hkg (Ne.symm hbg); have hkr2 := hK2.bk hkr (Ne.symm hbr); have hK3 : Keep (ApT g v) w1 W2 := hK.trans hK2 fun i hi e => by subst e; exact hlb hi
    have hx2 : (SS.set k (sc s'.p (.slice (some a1) s'.ks.length c1) (s'.gone + 1), { s' with gone := s'.gone + 1 }))[k]? = some (sc s'.p (.slice (some a1) s'.ks.length c1) (s'.gone + 1), { s' with gone := s'.gone + 1 }) := List.getElem?_set_self (by omega); have d17 : W2.cell? ⟨b, k * 19 + 17, none⟩ = some (.slice (some a1) s'.ks.length c1) := row_cell ho2 (fun p hp => stpF.len (hR2 p hp)) hx2 rfl (Nat.succ_pos _); have d18 : W2.cell? ⟨b, k * 19 + 18, none⟩ = some (.int .i64 ((s'.gone : Int) + 1)) := row_cell ho2 (fun p hp => stpF.len (hR2 p hp)) hx2 rfl (Nat.succ_pos _); have hwg : IntKind.i64.wrap (s'.gone : Int) = s'.gone := IntWalk.i64_in _ (by omega); have hwn : (0 : Int) ≤ (s'.gone : Int) := by omega
    have HQ2 := Lib.hid (And.intro (fun (j : Nat) (u : Value) (hu : (ec q (.slice A2 us.length c2))[j]? = some u) => (hb2.cell (p := (a1.add (s'.gone * 18)).add j) (by rw [add_block, add_block]; exact HQC.out.2.1)).trans (HQC.out.1 j u hu)) (And.intro HQC.out.2.2.1 (HQC.out.2.2.2.move (Move.of_below hb2 (fun i hi => hi) fun i hi => hi)))); have HY := Lib.hid (And.intro ho2 (And.intro hR2 (And.intro hm2 (And.intro hkg2 (And.intro hkr2 (And.intro hK3 (And.intro hK2.size hb2))))))); clear hSm hSR hSo hx hbk hkg hkr hK hl hT hgh hks hall hbb hcc hcm hSl hbg hbr hbB hlb hc1 hK2 hb2 hSS ho2 hR2 hm2 hkg2 hkr2 hK3 hW2 hx2 c17 c18 z18 hgk hgf; go_simp
    repeat' (first | go_values | go_skip | go_guarded | go_step | go_upon)
    have HD := Lib.hid (And.intro d17 d18); have HBW : Hid (b < W2.heap.size) := Lib.hid (by have := HX.out.2.2.2.2.1.lt; have := HY.out.2.2.2.2.2.2.1; omega); have HCB : Hid (a1.block < W2.heap.size) := Lib.hid (by have := HQC.out.2.1; have := HG.out.2.2.2.2.2.1; have := HX.out.2.2.2.2.2.2.2.1.size; have := HY.out.2.2.2.2.2.2.1; omega); have HBB : Hid (base ≤ W2.heap.size) := Lib.hid (by have := HG.out.2.2.2.1; have := HX.out.2.2.2.2.2.2.2.1.size; have := HY.out.2.2.2.2.2.2.1; omega); have hst7 : (W7 W2 base (k + 1) (.slice (some ⟨b, 0, none⟩) (k + 1) cc) ((SS.set k (sc s'.p (.slice (some a1) s'.ks.length c1) (s'.gone + 1), { s' with gone := s'.gone + 1 })).flatMap (·.1)) (sc q (.slice A2 us.length c2) 0) (.slice (some a1) s'.ks.length c1) (.int .i64 ((s'.gone : Int) + 1)) (.int .i64 s'.gone) (.pointer (some (a1.add (s'.gone * 18)))) (.agg (ec q (.slice A2 us.length c2)).toArray) (.agg (sc q (.slice A2 us.length c2) 0).toArray)) [none, none, none, none, none, none, none, none] W2.drew := ⟨⟨fun u h => (by cases h), fun u h => (by cases h), fun u h => (by cases h), fun u h => (by cases h), fun u h => (by cases h), fun u h => (by cases h)⟩, ⟨fun h => (by cases h), fun h => (by cases h), fun h => (by cases h), fun h => (by cases h), fun h => (by cases h), fun h => (by cases h)⟩, fun _ => ⟨(Below.refl _ _).drew, fun u h => (by cases h)⟩, fun u h => (by cases h)⟩
    refine wp_region_last 16 _ rfl (by kernel_rfl) rfl ?_; simp only [List.take_succ_cons, List.take_zero]
    refine wpAny_parts (S := (W7 W2 base (k + 1) (.slice (some ⟨b, 0, none⟩) (k + 1) cc) ((SS.set k (sc s'.p (.slice (some a1) s'.ks.length c1) (s'.gone + 1), { s' with gone := s'.gone + 1 })).flatMap (·.1)) (sc q (.slice A2 us.length c2) 0) (.slice (some a1) s'.ks.length c1) (.int .i64 ((s'.gone : Int) + 1)) (.int .i64 s'.gone) (.pointer (some (a1.add (s'.gone * 18)))) (.agg (ec q (.slice A2 us.length c2)).toArray) (.agg (sc q (.slice A2 us.length c2) 0).toArray))) (E := fun _ _ => True) [5, 9, 10, 11, 12, 13, 14, 15] [(0, Is (.pointer (some ⟨g, 0, none⟩))), (2, Is (.pointer (some ⟨r, 0, none⟩))), (4, Is (.slice (some ⟨b, 0, none⟩) (k + 1) cc)), (5, Is (.pointer (some ⟨b, k * 19, none⟩)))] [(36, Is (.slice (some ⟨b, 0, none⟩) (k + 1) cc)), (37, Is (.pointer (some ⟨b, k * 19, none⟩))), (38, Is (.pointer (some ⟨b, k * 19, none⟩))), (39, Is (.pointer (some ⟨b, k * 19, none⟩))), (40, Is (.pointer (some ⟨b, k * 19 + 17, none⟩))), (42, Is (.pointer (some ⟨b, k * 19, none⟩))), (43, Is (.pointer (some ⟨b, k * 19, none⟩))), (44, Is (.pointer (some ⟨b, k * 19 + 18, none⟩)))]
      [.op [4] none, .op [5] none, .op [37] none, .op [38] none, .op [39] none, .phase 0 [40] [] [], .op [5] none, .op [42] none, .op [43] none, .phase 1 [44] [] [], .phase 2 [] [(1, 45)] [], .phase 3 [] [(0, 41), (2, 46)] [], .phase 4 [] [(3, 47)] [], .phase 5 [] [(4, 48)] [], .phase 6 [] [(5, 49)] [], .phase 7 [36] [(6, 50)] []] ?_ ?_ ?_ ?_ ?_ ⟨stable_is _ _, stable_is _ _, stable_is _ _, stable_is _ _, stable_is _ _, stable_is _ _, stable_is _ _, stable_is _ _, stable_is _ _, stable_is _ _, stable_is _ _, stable_is _ _, trivial⟩ ?_ hst7 ?_ ?_
    · as_aux_lemma => kernel_rfl
    · as_aux_lemma => kernel_rfl
    · as_aux_lemma => kernel_rfl
    · as_aux_lemma => kernel_rfl
    · as_aux_lemma => kernel_rfl
    · exact ⟨rfl, rfl, rfl, rfl, trivial⟩
    · refine ⟨?_, ?_, ?_, ?_, ?_, ?_, ?_, ?_, ?_, ?_, ?_, ?_, ?_, ?_, ?_, ?_, trivial⟩
      · as_aux_lemma => intro vals a W hS hL; have e4 : a.tmps.getD 4 undef = .slice (some ⟨b, 0, none⟩) (k + 1) cc := hL.1; clear hL; go_simp; exact ⟨dstY (by rfl), hS, trivial⟩
      · as_aux_lemma => intro vals a W hS hL; have e5 : a.tmps.getD 5 undef = .pointer (some ⟨b, k * 19, none⟩) := hL.1; clear hL; go_simp; exact ⟨dstY (by rfl), hS, trivial⟩
      · as_aux_lemma => intro vals a W hS hL; have e37 : a.tmps.getD 37 undef = .pointer (some ⟨b, k * 19, none⟩) := hL.1; clear hL; go_simp; exact ⟨dstY (by rfl), hS, trivial⟩
      · as_aux_lemma => intro vals a W hS hL; have e38 : a.tmps.getD 38 undef = .pointer (some ⟨b, k * 19, none⟩) := hL.1; clear hL; go_simp; exact ⟨dstY (by rfl), hS, trivial⟩
      · as_aux_lemma => intro vals a W hS hL; have e39 : a.tmps.getD 39 undef = .pointer (some ⟨b, k * 19, none⟩) := hL.1; clear hL; go_simp; exact ⟨dstY (by rfl), hS, trivial⟩
      · as_aux_lemma =>
          intro a W vals hv hn hS hL hp hd; have e40 : a.tmps.getD 40 undef = .pointer (some ⟨b, k * 19 + 17, none⟩) := hL.1; clear hL
          obtain ⟨o0, o1, o2, o3, o4, o5, o6, o7, rfl⟩ : ∃ o0 o1 o2 o3 o4 o5 o6 o7, vals = [o0, o1, o2, o3, o4, o5, o6, o7] := by
            match vals, hv with
            | [xo0, xo1, xo2, xo3, xo4, xo5, xo6, xo7], _ => exact ⟨xo0, xo1, xo2, xo3, xo4, xo5, xo6, xo7, rfl⟩
          obtain rfl : o0 = none := Option.some.inj hn; have hb7 := (hS.2.2.1 (hS.2.1.k0 rfl)).1; have fb : W.cell? ⟨b, k * 19 + 17, none⟩ = some (.slice (some a1) s'.ks.length c1) := (hb7.cell (p := ⟨b, k * 19 + 17, none⟩) HBW.out).trans HD.out.1; clear hb7; go_simp; exact ⟨hS.s0, trivial, trivial⟩
      · as_aux_lemma => intro vals a W hS hL; have e5 : a.tmps.getD 5 undef = .pointer (some ⟨b, k * 19, none⟩) := hL.1; clear hL; go_simp; exact ⟨dstY (by rfl), hS, trivial⟩
      · as_aux_lemma => intro vals a W hS hL; have e42 : a.tmps.getD 42 undef = .pointer (some ⟨b, k * 19, none⟩) := hL.1; clear hL; go_simp; exact ⟨dstY (by rfl), hS, trivial⟩
      · as_aux_lemma => intro vals a W hS hL; have e43 : a.tmps.getD 43 undef = .pointer (some ⟨b, k * 19, none⟩) := hL.1; clear hL; go_simp; exact ⟨dstY (by rfl), hS, trivial⟩
      · as_aux_lemma =>
          intro a W vals hv hn hS hL hp hd; have e44 : a.tmps.getD 44 undef = .pointer (some ⟨b, k * 19 + 18, none⟩) := hL.1; clear hL
          obtain ⟨o0, o1, o2, o3, o4, o5, o6, o7, rfl⟩ : ∃ o0 o1 o2 o3 o4 o5 o6 o7, vals = [o0, o1, o2, o3, o4, o5, o6, o7] := by
            match vals, hv with
            | [xo0, xo1, xo2, xo3, xo4, xo5, xo6, xo7], _ => exact ⟨xo0, xo1, xo2, xo3, xo4, xo5, xo6, xo7, rfl⟩
          obtain rfl : o1 = none := Option.some.inj hn; have hb7 := (hS.2.2.1 (hS.2.1.k1 rfl)).1; have fb : W.cell? ⟨b, k * 19 + 18, none⟩ = some (.int .i64 ((s'.gone : Int) + 1)) := (hb7.cell (p := ⟨b, k * 19 + 18, none⟩) HBW.out).trans HD.out.2; clear hb7; go_simp; exact ⟨hS.s1, trivial, trivial⟩
      · as_aux_lemma =>
          intro a W vals hv hn hS hL hp hd; clear hL
          obtain ⟨o0, o1, o2, o3, o4, o5, o6, o7, rfl⟩ : ∃ o0 o1 o2 o3 o4 o5 o6 o7, vals = [o0, o1, o2, o3, o4, o5, o6, o7] := by
            match vals, hv with
            | [xo0, xo1, xo2, xo3, xo4, xo5, xo6, xo7], _ => exact ⟨xo0, xo1, xo2, xo3, xo4, xo5, xo6, xo7, rfl⟩
          obtain rfl : o2 = none := Option.some.inj hn; obtain rfl : o1 = some (a.tmps.getD 45 undef) := Option.some.inj hp.1; have e45 := hS.1.2.1 _ rfl; rw [e45] at hS; rw [Array.getD_eq_getD_getElem?] at e45; have hw2 : IntKind.i64.wrap ((s'.gone : Int) + 1 - 1) = s'.gone := by rw [Int.add_sub_cancel]; exact hwg
          go_simp; exact ⟨hS.s2, trivial, trivial⟩
      · as_aux_lemma =>
          intro a W vals hv hn hS hL hp hd; clear hL
          obtain ⟨o0, o1, o2, o3, o4, o5, o6, o7, rfl⟩ : ∃ o0 o1 o2 o3 o4 o5 o6 o7, vals = [o0, o1, o2, o3, o4, o5, o6, o7] := by
            match vals, hv with
            | [xo0, xo1, xo2, xo3, xo4, xo5, xo6, xo7], _ => exact ⟨xo0, xo1, xo2, xo3, xo4, xo5, xo6, xo7, rfl⟩
          obtain rfl : o3 = none := Option.some.inj hn; obtain rfl : o0 = some (a.tmps.getD 41 undef) := Option.some.inj hp.1; obtain rfl : o2 = some (a.tmps.getD 46 undef) := Option.some.inj hp.2.1; have e41 := hS.1.1 _ rfl; have e46 := hS.1.2.2.1 _ rfl; rw [e41, e46] at hS; rw [Array.getD_eq_getD_getElem?] at e41 e46; go_simp; exact ⟨hS.s3, trivial, trivial⟩
      · as_aux_lemma =>
          intro a W vals hv hn hS hL hp hd; clear hL
          obtain ⟨o0, o1, o2, o3, o4, o5, o6, o7, rfl⟩ : ∃ o0 o1 o2 o3 o4 o5 o6 o7, vals = [o0, o1, o2, o3, o4, o5, o6, o7] := by
            match vals, hv with
            | [xo0, xo1, xo2, xo3, xo4, xo5, xo6, xo7], _ => exact ⟨xo0, xo1, xo2, xo3, xo4, xo5, xo6, xo7, rfl⟩
          obtain rfl : o4 = none := Option.some.inj hn; obtain rfl : o3 = some (a.tmps.getD 47 undef) := Option.some.inj hp.1; have hb7 := (hS.2.2.1 (hS.2.1.k4 rfl)).1; have e47 := hS.1.2.2.2.1 _ rfl; refine lands_vB (run_ldmB (cs := ec q (.slice A2 us.length c2)) rtExpr (q := a1.add (s'.gone * 18)) (fun j u hu => (hb7.cell (p := (a1.add (s'.gone * 18)).add j) (by rw [add_block, add_block]; exact HCB.out)).trans (HQ2.out.1 j u hu)) (.tmp 47) rfl e47) ⟨hS.s4, trivial, trivial⟩
      · as_aux_lemma =>
          intro a W vals hv hn hS hL hp hd; clear hL
          obtain ⟨o0, o1, o2, o3, o4, o5, o6, o7, rfl⟩ : ∃ o0 o1 o2 o3 o4 o5 o6 o7, vals = [o0, o1, o2, o3, o4, o5, o6, o7] := by
            match vals, hv with
            | [xo0, xo1, xo2, xo3, xo4, xo5, xo6, xo7], _ => exact ⟨xo0, xo1, xo2, xo3, xo4, xo5, xo6, xo7, rfl⟩
          obtain rfl : o5 = none := Option.some.inj hn; obtain rfl : o4 = some (a.tmps.getD 48 undef) := Option.some.inj hp.1; have e48 := hS.1.2.2.2.2.1 _ rfl; exact lands_vB (run_step (.tmp 48) rfl e48) ⟨hS.s5, trivial, trivial⟩
      · as_aux_lemma =>
          intro a W vals hv hn hS hL hp hd; clear hL
          obtain ⟨o0, o1, o2, o3, o4, o5, o6, o7, rfl⟩ : ∃ o0 o1 o2 o3 o4 o5 o6 o7, vals = [o0, o1, o2, o3, o4, o5, o6, o7] := by
            match vals, hv with
            | [xo0, xo1, xo2, xo3, xo4, xo5, xo6, xo7], _ => exact ⟨xo0, xo1, xo2, xo3, xo4, xo5, xo6, xo7, rfl⟩
          obtain rfl : o6 = none := Option.some.inj hn; obtain rfl : o5 = some (a.tmps.getD 49 undef) := Option.some.inj hp.1; have e49 := hS.1.2.2.2.2.2 _ rfl; exact lands_vB (run_steps (.tmp 49) rfl e49) ⟨hS.s6, trivial, trivial⟩
      · as_aux_lemma =>
          intro a W vals hv hn hS hL hp hd; have e36 : a.tmps.getD 36 undef = .slice (some ⟨b, 0, none⟩) (k + 1) cc := hL.1; clear hL
          obtain ⟨o0, o1, o2, o3, o4, o5, o6, o7, rfl⟩ : ∃ o0 o1 o2 o3 o4 o5 o6 o7, vals = [o0, o1, o2, o3, o4, o5, o6, o7] := by
            match vals, hv with
            | [xo0, xo1, xo2, xo3, xo4, xo5, xo6, xo7], _ => exact ⟨xo0, xo1, xo2, xo3, xo4, xo5, xo6, xo7, rfl⟩
          obtain rfl : o7 = none := Option.some.inj hn; obtain rfl : o6 = some (a.tmps.getD 50 undef) := Option.some.inj hp.1; obtain ⟨hb7, hx7⟩ := hS.2.2.1 rfl; obtain ⟨i, e50, hi, hk⟩ := hx7 _ rfl; have ho7 := (Keep.of_below (S := fun i => W2.heap.size ≤ i) hb7 fun i _ h => h).own HY.out.1 fun i hi hh => by have := (HY.out.1.lt i hi).2; omega
          exact lands_app stepRow (.tmp 36) (.tmp 50) rfl e36 e50 ho7 (bk_rd (k := 19) (n := 1) hk rfl) (sc_one q) (by unfold maxLen; omega) (by omega) (Nat.le_trans HBB.out hb7.size) fun u W3 o2 g2 => ⟨hS.s7 o2 g2, trivial, trivial⟩
    · intro a W vals hd hsz hT hF hv hall hQ7 hS
      obtain ⟨o0, o1, o2, o3, o4, o5, o6, o7, rfl⟩ : ∃ o0 o1 o2 o3 o4 o5 o6 o7, vals = [o0, o1, o2, o3, o4, o5, o6, o7] := by
        match vals, hv with
        | [xo0, xo1, xo2, xo3, xo4, xo5, xo6, xo7], _ => exact ⟨xo0, xo1, xo2, xo3, xo4, xo5, xo6, xo7, rfl⟩
      obtain ⟨u, hu⟩ := hall 7 (by decide); have e51 : u = a.tmps.getD 51 undef := hQ7 7 15 _ 51 u rfl rfl rfl hu; obtain ⟨W3, hb3, hg3, ho3⟩ := hS.2.2.2 u (Option.some.inj hu); have e0 : a.tmps.getD 0 undef = .pointer (some ⟨g, 0, none⟩) := hT 0 (by simp); have e2 : a.tmps.getD 2 undef = .pointer (some ⟨r, 0, none⟩) := hT 2 (by simp); have HE := Lib.hid (And.intro e0 (And.intro e2 (And.intro hd hsz))); have H3 := Lib.hid (And.intro hb3 (And.intro hg3 ho3)); clear hT hF hv hall hQ7 hS hu hb3 hg3 ho3 e0 e2 hd hsz hst7
      show Oper.wp _ _ _ _ _ _
      refine wp_copy (t := 51) rfl ?_; rw [← e51]; clear e51
      show Exit.then _ _ Exit.normal (a.put (some 4) u) W
      have HA : Hid ((a.put (some 4) u).defers = [] ∧ (a.put (some 4) u).tmps.size = 63 ∧ (a.put (some 4) u).tmps.getD 0 undef = .pointer (some ⟨g, 0, none⟩) ∧ (a.put (some 4) u).tmps.getD 2 undef = .pointer (some ⟨r, 0, none⟩) ∧ (a.put (some 4) u).tmps.getD 4 undef = u) := by
        obtain ⟨h0, h2, h3, h4⟩ := HE.out; have h5 : a.tmps.size = 63 := h4; exact Lib.hid ⟨h3, by simp [Act.put, h5], by rw [getD_put_ne (by decide)]; exact h0, by rw [getD_put_ne (by decide)]; exact h2, getD_put_self (by rw [h5]; decide)⟩
      generalize a.put (some 4) u = a' at HA ⊢; clear HE
      repeat' (first | go_values | go_skip | go_guarded | go_step | go_upon)
      refine wp_goto ?_
      show ∃ g', g' < gh ∧ WnJ w1 B base g r v T g' 0 a' W
      obtain ⟨hSm, hSR, hSo, hx, hbk, hkg, hkr, hK, hl, hT, hgh, hks, hall, hbb, hcc, hcm, hSl, hbg, hbr, hbB, hlb, hc1⟩ := HX.out; obtain ⟨ho2, hR2, hm2, hkg2, hkr2, hK3, hsz2, hb2⟩ := HY.out; obtain ⟨hb3, hg3, ho3⟩ := H3.out; obtain ⟨hd, hsz, e0, e2, e4⟩ := HA.out; have hq2 := HQ2.out.2; have hq : s'.ks[s'.gone]? = some (.mk q us) := HQQ.out
      have hcnt : cntL us + 1 ≤ cntL (s'.ks.drop s'.gone) := by
        obtain ⟨hl, he⟩ := List.getElem?_eq_some_iff.1 hq; rw [List.drop_eq_getElem_cons hl, he]; simp only [cntL, cntT]; omega
      have hul := len_cnt us; have hlt := HLT.out; have hoW3 := (Keep.of_below (S := fun i => W2.heap.size ≤ i) hb3 fun i _ h => h).own ho2 fun i hi hh => by have := (ho2.lt i hi).2; omega
      have hb4 : Below base W3 W := hg3.below hoW3 (Nat.le_trans HBB.out hb3.size); have hb5 : Below base W2 W := (hb3.mono HBB.out).trans hb4; have hmv : Move W2 (· < B) W (· < B) := Move.of_below hb5 (fun i hi => Nat.lt_of_lt_of_le hi HG.out.1) fun i hi => hi; have hln2 : (Lb ++ [({ s' with gone := s'.gone + 1 } : Wst)]).length = k + 1 := by rw [HKL.out]; simp
      have hO := OwnF.snoc (f := stpF) hm2 hR2 hmv (x := (⟨q, us, 0⟩ : Wst)) (cs := sc q (.slice A2 us.length c2) 0) ⟨A2, c2, rfl, hq2.1, hq2.2.move hmv⟩ (by rw [hln2]; exact ho3); have hK4 : Keep (ApT g v) w1 W3 := hK3.trans (Keep.of_below (S := fun i => W2.heap.size ≤ i) hb3 fun i _ h => h) fun i hi h => by have := hK3.size; omega
      have hK5 : Keep (ApT g v) w1 W := hK4.trans (Keep.of_grew hg3 (S := fun i => i = b) fun i e => by simpa [Value.ownBlock] using e) fun i hi e => by subst e; exact hlb hi
      have hL : Lies w1 v u := by
        rcases hg3.lies with h | ⟨j, h, hj⟩
        · rcases hl with h2 | ⟨j, h2, hj⟩
          · exact .inl (h.trans h2)
          · exact .inr ⟨j, h.trans h2, hj⟩
        · exact .inr ⟨j, h, Nat.le_trans hK4.size hj⟩
      refine ⟨cntL us + 1, by omega, rfl, hd, hsz, e0, e2, u, _, _, e4, hO, hg3.bk hoW3 (hkg2.below hb3 hkg2.lt) (by decide), hg3.bk hoW3 (hkr2.below hb3 hkr2.lt) (by decide), hK5, hL, ?_, by simp only [List.drop_zero]; omega, fun x hx => ?_⟩
      · rw [← hT]; simp only [List.reverse_append, List.reverse_singleton, List.singleton_append]; exact rem_down hq
      · rcases List.mem_append.1 hx with hx | hx
        · rcases List.mem_append.1 hx with hx | hx
          · exact hks x (List.mem_append_left _ hx)
          · obtain rfl := List.mem_singleton.1 hx; exact hkl
        · obtain rfl := List.mem_singleton.1 hx
          show us.length ≤ 100000
          omega
  · have hgo' : ¬(s'.gone : Int) < (s'.ks.length : Int) := by omega
    have hkc : (k : Int) ≤ (cc : Int) := by have := HX.out.2.2.2.2.2.2.2.2.2.2.2.2.2.2.1; omega
    have hk00 : (0 : Int) ≤ (k : Int) := by omega
    repeat' (first | go_values | go_skip | go_guarded | go_step | go_upon)
    go_quiet (fail)
    repeat' (first | ((with_reducible show Oper.wp _ _ _ _ _ _); with_reducible refine stop_st _ _ rfl ?_) | go_values | go_skip | go_guarded | go_step | go_upon)
    refine Lib.hid ?_; refine st_hdr _ _ rfl rfl rfl hgk hgf ?_; intro W2 hW2; obtain ⟨hSm, hSR, hSo, hx, hbk, hkg, hkr, hK, hl, hT, hgh, hks, hall, hbb, hcc, hcm, hSl, hbg, hbr, hbB, hlb, hc1⟩ := HX.out; have hK2 : Keep (fun i => i = g) W W2 := by rw [hW2]; exact (show Keep (fun i => i = g) W (W.drewN _) from ⟨rfl, rfl, rfl, Nat.le_refl _, fun _ _ _ => rfl⟩).setCell (p := ⟨g, 0, none⟩) (fun _ => rfl) _
    have hkg2 : Bk W2 g 74 #[.slice (some ⟨b, 0, none⟩) k cc] := by rw [hW2]; exact (show Bk (W.drewN _) g 74 #[v] from hkg).set_ 0 _
    have hgr : g ≠ r := HG.out.2.2.1; have hkr2 := hK2.bk hkr (Ne.symm hgr)
    have hc2 : ∀ (j : Nat) (u : Value), (ec s'.p (.slice A1 s'.ks.length c1))[j]? = some u → W2.cell? ((⟨b, k * 19, none⟩ : Addr).add j) = some u := fun j u hu => by
      have e : (⟨b, k * 19, none⟩ : Addr).add j = ⟨b, k * 19 + j, none⟩ := by unfold Addr.add; split <;> simp_all
      rw [e]; refine (World.cell?_of_block (w := W) (w' := W2) (a := ⟨b, k * 19 + j, none⟩) (hK2.block b hbk.lt hbg)).trans (hall j u ?_); rw [show sc s'.p (.slice A1 s'.ks.length c1) s'.gone = ec s'.p (.slice A1 s'.ks.length c1) ++ [.int .i64 s'.gone] from rfl, List.getElem?_append_left (List.getElem?_eq_some_iff.1 hu).1]; exact hu
    have HY := Lib.hid (And.intro hK2 (And.intro hkg2 hkr2)); have hrf := hkr2.frozen 0; clear hSm hSR hSo hx hbk hkg hkr hK hl hT hgh hks hall hbb hcc hcm hSl hbg hbr hbB hlb hc1 hK2 hkg2 hW2
    repeat' (first | ((with_reducible show Oper.wp _ _ _ _ _ _); with_reducible refine stop_ld (ty := 47) _ rfl ?_) | go_values | go_skip | go_guarded | go_step | go_upon)
    refine Lib.hid ?_; refine ldm_g (cs := ec s'.p (.slice A1 s'.ks.length c1)) rtExpr _ rfl rfl hc2 ?_; go_simp
    repeat' (first | ((with_reducible show Oper.wp _ _ _ _ _ _); with_reducible refine stop_st _ _ rfl ?_) | go_values | go_skip | go_guarded | go_step | go_upon)
    refine Lib.hid ?_; refine st_p (g := r) (p := s'.p) _ _ rfl rfl rfl hkr2 rfl ?_; intro W3 hk3 hK3 hz3; go_simp
    repeat' (first | go_values | go_skip | go_guarded | go_step | go_upon)
    obtain ⟨hSm, hSR, hSo, hx, hbk, hkg, hkr, hK, hl, hT, hgh, hks, hall, hbb, hcc, hcm, hSl, hbg, hbr, hbB, hlb, hc1⟩ := HX.out; obtain ⟨hK2, hkg2, -⟩ := HY.out; have hKK : Keep (fun i => i = g ∨ i = r) W W3 := (hK2.mono (T := fun i => i = g ∨ i = r) fun i _ h => .inl h).trans hK3 fun i _ h => .inr h; have hgB : B ≤ g := HG.out.2.1; have hrB : B ≤ r := HG.out.2.2.2.2.2.2.2; have hmv : Move W (· < B) W3 (· < B) := hKK.move (fun i hi => ⟨by have := HG.out.2.2.2.2.2.1; have := hK.size; omega, fun h => by rcases h with h | h <;> omega⟩) fun i hi => hi; have hoc := own_cutk (m := k) hSo (Nat.le_succ k)
    have hO : OwnF stpF W3 (· < B) base 72 (.slice (some ⟨b, 0, none⟩) k cc) Lb := by
      refine ⟨SS.take k, ?_, fun p hp => stpF.move hmv (hSR p (List.mem_of_mem_take hp)), ?_⟩
      · rw [List.map_take, hSm, HKL.out]; simp
      · rw [← HKL.out, ← flat_take (fun p hp => stpF.len (hSR p hp)) k]; refine hKK.own hoc fun i hi h => ?_; injection hi with hi; subst hi; exact h.elim hbg hbr
    refine HQ.out _ _ ⟨rfl, rfl, rfl, s'.p, s'.ks.length, A1, c1, .slice (some ⟨b, 0, none⟩) k cc, Lb, ?_, hk3, hK3.bk hkg2 HG.out.2.2.1, hO, ?_, hl, fun x hx => hks x (List.mem_append_left _ hx)⟩
    · rw [← hT]; simp only [List.reverse_append, List.reverse_singleton, List.singleton_append]; exact rem_up (by omega)
    · exact (hK.mono (T := fun i => ApT g v i ∨ i = r) fun i _ h => .inl h).trans hKK fun i _ h => h.elim (fun h => .inl (.inl h)) .inr
end Go.Proofs.YtlaiocdnddnnaaaGreatDoor
