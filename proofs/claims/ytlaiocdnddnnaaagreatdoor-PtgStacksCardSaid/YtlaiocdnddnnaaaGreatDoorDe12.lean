/- ptg.readAll, by their contracts. Conditions: the bytes read as such; utf8.ValidString keeps its contract. -/
/- ptg.Count, Decode, by their contracts. Conditions: the bytes read as such; utf8.ValidString keeps its contract. -/
import Derived.Test.YtlaiocdnddnnaaaGreatDoorRd12
import Derived.Test.YtlaiocdnddnnaaaGreatDoorNf
import Derived.Test.YtlaiocdnddnnaaaGreatDoorDe0
import Derived.Test.YtlaiocdnddnnaaaGreatDoorNe
set_option linter.unusedVariables false
set_option linter.unusedSimpArgs false
namespace Go.Proofs.YtlaiocdnddnnaaaGreatDoor
open Go.RowKit
theorem read_any12 {w0 w : World} (HV : Val w) {A : Option Addr} {n c B g i cnt : Nat} {l : List UInt8} {v : Value} {ops : List Tr} (h : Rd w B 1 A n (l.map bv)) (hnc : n ≤ c) (hn : n ≤ 100000) (hB : B ≤ w.heap.size) (hW : Below w0.heap.size w0 w) (hR : Rdr w w0.heap.size g A n c i cnt v ops) (hi : i ≤ n) (hc : cnt ≤ i) (ho : ops.length ≤ cnt) :
    Calls Tryz.prog 52 #[.pointer (some ⟨g, 0, none⟩)] w fun e W => e = .returned (.int .i64 (tkOpE l i ops)) ∧ Below w0.heap.size w0 W ∧ ((tkOpE l i ops = 0 ∧ ∃ v', Rdr W w0.heap.size g A n c (gtT l i).2 (cnt + 1) v' (upT (gtT l i).1 ops)) ∨ (¬ tkOpE l i ops = 0 ∧ Rdr W w0.heap.size g A n c i cnt v ops)) := by
  obtain ⟨A1, c1, rfl, hc1⟩ := hR.form; have HG := fun (W : World) (hb : Below w.heap.size w W) => get_any12 (HV.below hb) (h.belowMono hb hB) hnc (by omega) (Nat.le_trans hB hb.size) hi; have hz := hW.size; have htk := gtT_takes l i
  by_cases hE : (gtT l i).1.err = 0
  · have HG0 : Hid (∀ W : World, Below w.heap.size w W → Calls Tryz.prog 84 #[.agg #[.slice A n c, .int .i64 i]] W fun e W' => ∃ (q : Got) (z : Int), e = .returned (.tuple #[.agg (tkV q).toArray, .agg (cu A n c z).toArray, .int .i64 (0 : Int)]) ∧ (q.pay = (gtT l i).1.pay ∧ q.takes = (gtT l i).1.takes ∧ z = ((gtT l i).2 : Int)) ∧ Below W.heap.size W W') := Lib.hid fun W hb => by
      refine (HG W hb).mono ?_; rintro e W' ⟨q, z, rfl, hq, hb'⟩; rw [hE]; exact ⟨q, z, rfl, hq hE, hb'⟩
    by_cases hk : ops.length < (gtT l i).1.takes
    · have e : tkOpE l i ops = 10 := by rw [tkOpE, if_pos hE, if_pos hk]
      refine (read_few (w0 := w) (E := 0) HG0 (Lib.hid hR.box) hk (by omega) (by omega)).mono ?_; rintro x W ⟨rfl, hb⟩; exact ⟨by rw [e], hW.trans (hb.mono hz), .inr ⟨by rw [e]; decide, hR.below hb⟩⟩
    · have e : tkOpE l i ops = 0 := by rw [tkOpE, if_pos hE, if_neg hk]
      refine (read_ok (E := 0) (fN := ops.length - (gtT l i).1.takes) HG0 (Lib.hid hW) (Lib.hid hR) (Lib.hid ⟨by omega, by omega⟩) rfl (by omega)).mono ?_; rintro x W ⟨v', rfl, hb, hR'⟩; exact ⟨by rw [e], hb, .inl ⟨e, v', hR'⟩⟩
  · have e : tkOpE l i ops = (gtT l i).1.err := by rw [tkOpE, if_neg hE]
    refine (read_err (w0 := w) (p := zp) (nx := 0) (tk := 0) (E := (gtT l i).1.err) (Lib.hid fun W hb => ?_) hE (Lib.hid hR.box)).mono ?_
    · refine (HG W hb).mono ?_; rintro e W' ⟨q, z, rfl, -, hb'⟩; exact ⟨q, z, rfl, hb'⟩
    · rintro x W ⟨rfl, hb⟩; exact ⟨by rw [e], hW.trans (hb.mono hz), .inr ⟨by rw [e]; exact hE, hR.below hb⟩⟩
def RaJ (w0 : World) (A : Option Addr) (n c gr gs : Nat) (l : List UInt8) (T : Nat × Nat × List Tr × Int) (g lb : Nat) (a : Act) (W : World) : Prop :=
  lb = 0 ∧ a.defers = [] ∧ a.tmps.size = 23 ∧ a.tmps.getD 2 undef = .pointer (some ⟨gs, 0, none⟩) ∧ a.tmps.getD 4 undef = .pointer (some ⟨gr, 0, none⟩) ∧
    ∃ (i cnt : Nat) (v : Value) (ops : List Tr), Below w0.heap.size w0 W ∧ Rdr W w0.heap.size gr A n c i cnt v ops ∧ i ≤ n ∧ cnt ≤ i ∧ ops.length ≤ cnt ∧ n < g + i ∧ goT l g i cnt ops = T
def RaF (w0 : World) (A : Option Addr) (n c gs : Nat) (T : Nat × Nat × List Tr × Int) (a : Act) (W : World) : Prop :=
  a.defers = [] ∧ a.tmps[3]? = some (.int .i64 T.2.2.2) ∧ a.tmps[2]? = some (.pointer (some ⟨gs, 0, none⟩)) ∧ ∃ (S : Option Addr) (c' : Nat), Bk W gs 84 (rd4 A n c T.1 T.2.1 (.slice S T.2.2.1.length c')).toArray ∧ T.2.2.1.length ≤ c' ∧ RowF treeF W (fun i => w0.heap.size ≤ i ∧ i < W.heap.size) S T.2.2.1.length T.2.2.1 ∧ Keep (fun i => w0.heap.size ≤ i ∨ i = gs) w0 W
theorem rdr_row {W : World} {base g : Nat} {A : Option Addr} {n c i cnt : Nat} {S : Option Addr} {k c' : Nat} {ops : List Tr} (h : Rdr W base g A n c i cnt (.slice S k c') ops) : k = ops.length ∧ ops.length ≤ c' ∧ RowF treeF W (· < W.heap.size) S ops.length ops := by
  obtain ⟨SS, h1, h2, h3⟩ := h.row; obtain ⟨A1, c1, e, hc, hr⟩ := trs_row (F := (· < W.heap.size)) (S := SS) (h1.move (Move.wide fun i hi => hi.2.1)) h3 (by rw [← h2, List.length_map]) (fun i hi => (h3.lt i hi).2); injection e with e1 e2 e3; subst e1 e3; rw [h2] at hr; exact ⟨e2, hc, hr⟩
section
variable {o : Oper} {a : Act} {W : World} {K : Act → World → Prop} {Q : Exit → Act → World → Prop}
theorem st_r84 {g : Nat} {A B A0 B0 : Option Addr} {n c m d n0 c0 m0 d0 : Nat} {x y x0 y0 : Int} (p q : Operand) (ho : o.op = .store 84 p q) (hx : a.eval p = .pointer (some ⟨g, 0, none⟩)) (hy : a.eval q = .agg #[.slice A n c, .int .i64 x, .int .i64 y, .slice B m d])
    (hb : Bk W g 84 (rd4 A0 n0 c0 x0 y0 (.slice B0 m0 d0)).toArray) (h : ∀ W', Bk W' g 84 (rd4 A n c x y (.slice B m d)).toArray → Keep (fun i => i = g) W W' → K (a.put o.dst undef) W') : o.wp Tryz.prog a W K Q := by
  refine wp_store_mid _ p q ho g 0 (rd4 A n c x y (.slice B m d)).toArray hx hy (fun j hj => ?_) (by kernel_rfl) (all_oneCell_toArray rd4_one) ?_
  · have hj : j < 4 := hj; rw [Nat.zero_add, hb.cell, hb.frozen]; exact ⟨by match j, hj with | 0, _ => rfl | 1, _ => rfl | 2, _ => rfl | 3, _ => rfl, rfl⟩
  · exact h _ (setCells_bk (rd4 A n c x y (.slice B m d)) 0 _ W hb (Nat.le_refl _)) (setCells_keep _ _ _)
end
theorem ra_end {w0 W : World} {A : Option Addr} {n c gr gs i cnt : Nat} {S : Option Addr} {k c' : Nat} {ops : List Tr} {cs : Array Value} (hb : Below w0.heap.size w0 W) (hR : Rdr W w0.heap.size gr A n c i cnt (.slice S k c') ops) (hgs : gs < w0.heap.size) {W' : World} (hk : Bk W' gs 84 cs) (hcs : cs = (rd4 A n c i cnt (.slice S k c')).toArray) (hK : Keep (fun j => j = gs) W W') :
    ∃ (S' : Option Addr) (c'' : Nat), Bk W' gs 84 (rd4 A n c i cnt (.slice S' ops.length c'')).toArray ∧ ops.length ≤ c'' ∧ RowF treeF W' (fun i => w0.heap.size ≤ i ∧ i < W'.heap.size) S' ops.length ops ∧ Keep (fun i => w0.heap.size ≤ i ∨ i = gs) w0 W' := by
  obtain ⟨rfl, hc, -⟩ := rdr_row hR; obtain ⟨SS, h1, h2, h3⟩ := hR.row; obtain ⟨A1, c1, e, hc1, hr⟩ := trs_row (F := fun i => w0.heap.size ≤ i ∧ i < W.heap.size) (S := SS) (h1.move (Move.wide fun i hi => ⟨hi.1, hi.2.1⟩)) h3 (by rw [← h2, List.length_map]) (fun i hi => h3.lt i hi); injection e with e1 e2 e3; subst e1 e3 hcs; rw [h2] at hr; refine ⟨S, c', hk, hc, hr.move fun i hi => ⟨⟨hi.1, Nat.lt_of_lt_of_le hi.2 hK.size⟩, hK.block i hi.2 (by omega)⟩, ?_⟩; exact (Keep.of_below (S := fun i => w0.heap.size ≤ i ∨ i = gs) hb fun i _ h => .inl h).trans hK fun i _ e => .inr e
set_option maxRecDepth 20000 in
set_option maxHeartbeats 4000000 in
theorem ra_pass {w0 : World} {A : Option Addr} {n c gr gs g : Nat} {l : List UInt8} {T : Nat × Nat × List Tr × Int} (HV0 : Hid (Val w0)) {B : Nat} (HH : Hid (Rd w0 B 1 A n (l.map bv) ∧ B ≤ w0.heap.size ∧ n ≤ c ∧ n ≤ 100000 ∧ gs < w0.heap.size ∧ l.length = n ∧ ∃ z, Bk w0 gs 84 (rd4 none 0 0 0 0 z).toArray ∧ z = .slice none 0 0)) {Q : Exit → Act → World → Prop} (hQ : ∀ a W, RaF w0 A n c gs T a W → Q .ret a W) {r0 body rest : Code}
    (hbody : Tryz.f31.body = some (.seq r0 (.scope body))) (hr : findLabel body 0 = some (.seq .skip rest)) {a : Act} {W : World} (hJ : RaJ w0 A n c gr gs l T g 0 a W) :
    rest.wp Tryz.prog (Exit.jumps (fun l' a' W' => ∃ g', g' < g ∧ RaJ w0 A n c gr gs l T g' l' a' W') Q) a W := by
  unfold Tryz.f31 at hbody; simp only [Option.some.injEq] at hbody; have hb2 := Code.scope.inj (Code.seq.inj hbody).2; clear hbody; subst hb2; injection hr with hr; injection hr with _ hr; subst hr; obtain ⟨-, hd, hsz, e2, e4, i, cnt, v, ops, hW, hR, hin, hci, hoc, hg, hT⟩ := hJ; rw [act_lit 23 a hd hsz]; simp only [List.range, List.range.loop, List.map, e2, e4]; clear hd hsz e2 e4; generalize a.tmps.getD 0 undef = y0, a.tmps.getD 1 undef = y1, a.tmps.getD 3 undef = y3, a.tmps.getD 5 undef = y5, a.tmps.getD 6 undef = y6, a.tmps.getD 7 undef = y7, a.tmps.getD 8 undef = y8, a.tmps.getD 9 undef = y9, a.tmps.getD 10 undef = y10, a.tmps.getD 11 undef = y11, a.tmps.getD 12 undef = y12, a.tmps.getD 13 undef = y13, a.tmps.getD 14 undef = y14, a.tmps.getD 15 undef = y15, a.tmps.getD 16 undef = y16, a.tmps.getD 17 undef = y17, a.tmps.getD 18 undef = y18, a.tmps.getD 19 undef = y19, a.tmps.getD 20 undef = y20, a.tmps.getD 21 undef = y21, a.tmps.getD 22 undef = y22; obtain ⟨A1, c1, rfl, hc1⟩ := hR.form; have HM := Lib.hid (And.intro hin (And.intro hci (And.intro hoc (And.intro hg hT)))); have HQ := Lib.hid hQ; have HR := Lib.hid hR; have HW := Lib.hid hW; have c0 : W.cell? ⟨gr, 0, none⟩ = some (.slice A n c) := hR.box.cell 0; have c1_ : W.cell? ⟨gr, 1, none⟩ = some (.int .i64 i) := hR.box.cell 1; clear hin hci hoc hg hT hQ hR hW hc1
  repeat' (first | go_values | go_skip | go_guarded | go_step | go_upon)
  refine (end_any (by have := HH.out.2.2.2.1; omega)).mono ?_; rintro e W1 ⟨rfl, hb1⟩; have HR1 := Lib.hid (HR.out.below hb1); have HW1 := Lib.hid (HW.out.trans (hb1.mono HW.out.size)); clear hb1 c0 c1_ HR HW
  by_cases hi : i = n
  · have hE : endE (i : Int) n = 0 := by unfold endE stB; rw [if_neg (by rw [decide_eq_true (by omega)]; simp), if_neg (by omega)]
    rw [hE]; clear hE; have q0 : W1.cell? ⟨gr, 0, none⟩ = some (.slice A n c) := HR1.out.box.cell 0; have q1 : W1.cell? ⟨gr, 1, none⟩ = some (.int .i64 i) := HR1.out.box.cell 1; have q2 : W1.cell? ⟨gr, 2, none⟩ = some (.int .i64 cnt) := HR1.out.box.cell 2; have q3 : W1.cell? ⟨gr, 3, none⟩ = some (.slice A1 ops.length c1) := HR1.out.box.cell 3; obtain ⟨z, hz, rfl⟩ := HH.out.2.2.2.2.2.2; have HZ := Lib.hid (hz.below HW1.out HH.out.2.2.2.2.1); clear hz; dsimp only
    repeat' (first | ((with_reducible show Oper.wp _ _ _ _ _ _); with_reducible refine stop_st _ _ rfl ?_) | go_values | go_skip | go_guarded | go_step | go_upon)
    refine Lib.hid ?_; refine st_r84 (g := gs) _ _ rfl rfl rfl HZ.out ?_; intro W2 hk2 hK2; clear q0 q1 q2 q3; go_simp
    repeat' (first | go_values | go_skip | go_guarded | go_step | go_upon)
    simp only [Exit.jumps]; have hT := HM.out.2.2.2.2
    have eT : T = (i, cnt, ops, 0) := by
      rw [← hT]
      cases g with
      | zero => rfl
      | succ g => rw [goT, if_pos (by have := HH.out.2.2.2.2.2.1; omega)]
    rw [eT] at HQ; refine HQ.out _ _ ⟨rfl, rfl, rfl, ra_end HW1.out HR1.out HH.out.2.2.2.2.1 hk2 (by rw [hi]) hK2⟩
  · have hE : endE (i : Int) n = 4 := by unfold endE stB; rw [if_neg (by rw [decide_eq_true (by have := HM.out.1; omega)]; simp), if_pos (by have := HM.out.1; omega)]
    rw [hE]; clear hE; dsimp only
    repeat' (first | go_values | go_skip | go_guarded | go_step | go_upon)
    refine (read_any12 (HV0.out.below HW1.out) (HH.out.1.belowMono HW1.out HH.out.2.1) HH.out.2.2.1 HH.out.2.2.2.1 (Nat.le_trans HH.out.2.1 HW1.out.size) HW1.out HR1.out HM.out.1 HM.out.2.1 HM.out.2.2.1).mono ?_; rintro e W2 ⟨rfl, hW2, hcase⟩; have HI : Hid (¬ l.length ≤ i) := Lib.hid (by have := HH.out.2.2.2.2.2.1; have := HM.out.1; omega); clear HR1 HW1 hi
    rcases hcase with ⟨hz, v', hR2⟩ | ⟨hz, hR2⟩
    · rw [hz]; have HZ := Lib.hid hz; have HR2 := Lib.hid (And.intro hW2 hR2); clear hz hW2 hR2; dsimp only
      repeat' (first | go_values | go_skip | go_guarded | go_step | go_upon)
      go_step3
      obtain ⟨h1, h2, h3, h4, h5⟩ := HM.out; have hlen := HH.out.2.2.2.2.2.1
      have hgt := gtT_bds l i (by
        have := HZ.out; unfold tkOpE at this
        split at this
        · assumption
        · rename_i hx; exact absurd this hx)
      cases g with
      | zero => omega
      | succ g =>
        refine ⟨g, Nat.lt_succ_self _, rfl, rfl, rfl, rfl, rfl, _, _, v', _, HR2.out.1, HR2.out.2, by omega, by omega, ?_, by omega, ?_⟩
        · unfold upT; have := gtT_takes l i; simp; omega
        · rw [← h5, goT, if_neg HI.out, if_pos HZ.out]
    · have hz2 : (tkOpE l i ops != 0) = true := by simpa using hz
      have HZ := Lib.hid hz; have HR2 := Lib.hid hR2; have HW2 := Lib.hid hW2
      have eT : Hid (T = (i, cnt, ops, tkOpE l i ops)) := Lib.hid (by
        rw [← HM.out.2.2.2.2]; have h4 := HM.out.2.2.2.1; have hlen := HH.out.2.2.2.2.2.1; have h1 := HM.out.1; have hI := HI.out
        cases g with
        | zero => omega
        | succ g => rw [goT, if_neg HI.out, if_neg hz])
      generalize tkOpE l i ops = E at *; clear hz hW2; have q0 : W2.cell? ⟨gr, 0, none⟩ = some (.slice A n c) := HR2.out.box.cell 0; have q1 : W2.cell? ⟨gr, 1, none⟩ = some (.int .i64 i) := HR2.out.box.cell 1; have q2 : W2.cell? ⟨gr, 2, none⟩ = some (.int .i64 cnt) := HR2.out.box.cell 2; have q3 : W2.cell? ⟨gr, 3, none⟩ = some (.slice A1 ops.length c1) := HR2.out.box.cell 3; clear hR2; obtain ⟨z, hz, rfl⟩ := HH.out.2.2.2.2.2.2; have HZ2 := Lib.hid (hz.below HW2.out HH.out.2.2.2.2.1); clear hz; dsimp only
      repeat' (first | ((with_reducible show Oper.wp _ _ _ _ _ _); with_reducible refine stop_st _ _ rfl ?_) | go_values | go_skip | go_guarded | go_step | go_upon)
      refine Lib.hid ?_; refine st_r84 (g := gs) _ _ rfl rfl rfl HZ2.out ?_; intro W3 hk2 hK2; clear q0 q1 q2 q3; go_simp
      repeat' (first | go_values | go_skip | go_guarded | go_step | go_upon)
      simp only [Exit.jumps]; rw [eT.out] at HQ; exact HQ.out _ _ ⟨rfl, rfl, rfl, ra_end HW2.out HR2.out HH.out.2.2.2.2.1 hk2 rfl hK2⟩
def RaOk (w : World) (A : Option Addr) (n c : Nat) (l : List UInt8) (e : Ending) (W : World) : Prop := ∃ (S : Option Addr) (c' : Nat), e = .returned (.tuple #[.agg (rd4 A n c (alT l).1 (alT l).2.1 (.slice S (alT l).2.2.1.length c')).toArray, .int .i64 (alT l).2.2.2]) ∧ (alT l).2.2.1.length ≤ c' ∧ RowF treeF W (fun i => w.heap.size ≤ i ∧ i < W.heap.size) S (alT l).2.2.1.length (alT l).2.2.1 ∧ Below w.heap.size w W
theorem res_r84 {fn : Func} {q r : Tmp} (h : fn.results = #[.cell q 84, .tmp r]) {tmps : Array Value} {W : World} {g : Nat} {cs : List Value} {u : Value} (hl : cs.length = 4) (hp : tmps[q]? = some (.pointer (some ⟨g, 0, none⟩))) (hr : tmps[r]? = some u) (hk : Bk W g 84 cs.toArray) :
    (results fn tmps).run Tryz.prog W = .ok (.tuple #[.agg cs.toArray, u]) W := by
  have hl := run_loadVar_row (P := Tryz.prog) W g 84 84 cs.toArray (0, 0) _ hk Tryz.underlying84 rfl (by rw [List.size_toArray, hl]; kernel_rfl); simp [results, h, hp, hr, asAddr, hl]
set_option maxRecDepth 20000 in
set_option maxHeartbeats 4000000 in
theorem readAll_any {w : World} (HV : Val w) {A : Option Addr} {n c B : Nat} {l : List UInt8} (h : Rd w B 1 A n (l.map bv)) (hnc : n ≤ c) (hn : n ≤ 100000) (hB : B ≤ w.heap.size) :
    Calls Tryz.prog 31 #[.slice A n c] w fun e W => RaOk w A n c l e W := by
  have hl := h.blen; obtain ⟨w0, hw0⟩ : ∃ w0, w0 = w.alloc (.cells #[.slice none 0 0, .int .i64 0, .int .i64 0, .slice none 0 0] 84) := ⟨_, rfl⟩
  have hb0 : Below w.heap.size w w0 := by rw [hw0]; exact bel0 _ _
  have hz0 : w0.heap.size = w.heap.size + 1 := by rw [hw0]; simp
  have hk0 : Bk w0 w.heap.size 84 (rd4 none 0 0 0 0 (.slice none 0 0)).toArray := by rw [hw0]; exact Bk.new _ _ _
  have HW0 := Lib.hid (And.intro hw0 (And.intro hb0 (And.intro hz0 hk0))); have HP := Lib.hid (And.intro HV (And.intro h (And.intro hnc (And.intro hn (And.intro hB hl))))); obtain ⟨w1, hw1⟩ : ∃ w1, w1 = w0.alloc (.cells #[.slice none 0 0, .int .i64 0, .int .i64 0, .slice none 0 0] 84) := ⟨_, rfl⟩
  have hb1 : Below w0.heap.size w0 w1 := by rw [hw1]; exact bel0 _ _
  have hk1 : Bk w1 w0.heap.size 84 (rd4 none 0 0 0 0 (.slice none 0 0)).toArray := by rw [hw1]; exact Bk.new _ _ _
  have HW1 := Lib.hid (And.intro hw1 (And.intro hb1 hk1)); clear hw0 hb0 hz0 hk0 HV h hnc hn hB hl hw1 hb1 hk1; go_enter Tryz.func31, Tryz.ntmps31
  repeat' (fail_if_success (with_reducible show Code.wp _ (Code.scope _) _ _ _)
           first | go_values | go_skip | go_guarded | go_step | go_upon)
  rw [← HW0.out.1]
  rename_i Q'
  have hQ : ∀ a W, RaF w0 A n c w.heap.size (alT l) a W → Q' .ret a W := by
    rintro a W ⟨hd, h3, h2, S, c', hk, hc, hr, hK⟩; refine bodyPost_ret (res_r84 rfl rfl h2 h3 hk) hd ⟨S, c', rfl, hc, hr.move (Move.wide fun i hi => ⟨by have := HW0.out.2.2.1; omega, hi.2⟩), ?_⟩; exact HW0.out.2.1.trans (hK.below (B := w.heap.size) (by have := HW0.out.2.2.1; omega) fun i hi e => by have := HW0.out.2.2.1; omega)
  have HHH : Hid (Rd w0 B 1 A n (l.map bv) ∧ B ≤ w0.heap.size ∧ n ≤ c ∧ n ≤ 100000 ∧ w.heap.size < w0.heap.size ∧ l.length = n ∧ ∃ z, Bk w0 w.heap.size 84 (rd4 none 0 0 0 0 z).toArray ∧ z = .slice none 0 0) := Lib.hid ⟨HP.out.2.1.belowMono HW0.out.2.1 HP.out.2.2.2.2.1, by have := HP.out.2.2.2.2.1; have := HW0.out.2.2.1; omega, HP.out.2.2.1, HP.out.2.2.2.1, by have := HW0.out.2.2.1; omega, HP.out.2.2.2.2.2, _, HW0.out.2.2.2, rfl⟩; have HV0 : Hid (Val w0) := Lib.hid (HP.out.1.below HW0.out.2.1)
  clear_value Q'
  refine wp_scope_ghost (RaJ w0 A n c w0.heap.size w.heap.size l (alT l)) ?_ ?_
  · have HQ := Lib.hid hQ; clear hQ
    by_cases h4 : 4096 < n
    · have eT : alT l = (0, 0, [], 4) := by rw [alT, if_pos (by have := HP.out.2.2.2.2.2; omega)]
      have h4' : (4096 : Int) < (n : Int) := by omega
      rw [eT] at HQ; clear eT h4
      repeat' (first | ((with_reducible show Oper.wp _ _ _ _ _ _); with_reducible refine stop_st _ _ rfl ?_) | go_values | go_skip | go_guarded | go_step | go_upon)
      rw [← HW1.out.1]; refine Lib.hid ?_; refine st_r84 (g := w0.heap.size) (A := A) (n := n) (c := c) (x := 0) (y := 0) (B := none) (m := 0) (d := 0) _ _ rfl rfl rfl HW1.out.2.2 ?_; intro W hk2 hK2; have HS := Lib.hid (And.intro hk2 hK2); have q0 : W.cell? ⟨w0.heap.size, 0, none⟩ = some (.slice A n c) := hk2.cell 0; have q1 : W.cell? ⟨w0.heap.size, 1, none⟩ = some (.int .i64 0) := hk2.cell 1; have q2 : W.cell? ⟨w0.heap.size, 2, none⟩ = some (.int .i64 0) := hk2.cell 2; have q3 : W.cell? ⟨w0.heap.size, 3, none⟩ = some (.slice none 0 0) := hk2.cell 3; clear hk2 hK2; go_simp
      repeat' (first | ((with_reducible show Oper.wp _ _ _ _ _ _); with_reducible refine stop_st _ _ rfl ?_) | go_values | go_skip | go_guarded | go_step | go_upon)
      refine Lib.hid ?_; have hz : Bk W w.heap.size 84 (rd4 none 0 0 0 0 (.slice none 0 0)).toArray := HS.out.2.bk (HW0.out.2.2.2.below HW1.out.2.1 (by have := HW0.out.2.2.1; omega)) (by have := HW0.out.2.2.1; omega); refine st_r84 (g := w.heap.size) (A := A) (n := n) (c := c) (x := 0) (y := 0) (B := none) (m := 0) (d := 0) _ _ rfl rfl rfl hz ?_; intro W2 hk2 hK2; clear q0 q1 q2 q3 hz; go_simp
      repeat' (first | go_values | go_skip | go_guarded | go_step | go_upon)
      simp only [Exit.jumps]; refine HQ.out _ _ ⟨rfl, rfl, rfl, none, 0, hk2, Nat.le_refl _, RowF.nil _ _ _ _, ?_⟩; exact ((Keep.of_below (S := fun i => w0.heap.size ≤ i ∨ i = w.heap.size) HW1.out.2.1 fun i _ h => .inl h).trans HS.out.2 fun i _ e => .inl (by omega)).trans hK2 fun i _ e => .inr e
    · have eT : alT l = goT l (l.length + 1) 0 0 [] := by rw [alT, if_neg (by have := HP.out.2.2.2.2.2; omega)]
      have HT := Lib.hid eT; have h4' : ¬ (4096 : Int) < (n : Int) := by omega
      clear eT h4
      repeat' (first | ((with_reducible show Oper.wp _ _ _ _ _ _); with_reducible refine stop_st _ _ rfl ?_) | go_values | go_skip | go_guarded | go_step | go_upon)
      rw [← HW1.out.1]; refine Lib.hid ?_; refine st_r84 (g := w0.heap.size) (A := A) (n := n) (c := c) (x := 0) (y := 0) (B := none) (m := 0) (d := 0) _ _ rfl rfl rfl HW1.out.2.2 ?_; intro W hk2 hK2; have HS := Lib.hid (And.intro hk2 hK2); clear hk2 hK2; go_simp
      repeat' (first | go_values | go_skip | go_guarded | go_step | go_upon)
      go_step3
      rename_i Kk hKk
      refine hKk _ _ (wp_mono (ra_pass (B := B) (gr := w0.heap.size) HV0 HHH HQ.out (g := l.length + 1) rfl rfl ?_) ?_)
      · refine ⟨rfl, rfl, rfl, rfl, rfl, 0, 0, .slice none 0 0, [], HW1.out.2.1.trans (HS.out.2.below (B := w0.heap.size) HW1.out.2.1.size fun i hi e => by omega), ⟨HS.out.1, ⟨[], (fun x hx => by cases hx), rfl, World.ownsRow_nil _ _ _ _⟩, Nat.le_refl _⟩, Nat.zero_le _, Nat.le_refl _, Nat.le_refl _, by have := HP.out.2.2.2.2.2; omega, HT.out.symm⟩
      · intro e a W hq
        cases e with
        | goto l =>
          obtain ⟨g', -, h⟩ := hq; exact ⟨g', h⟩
        | _ => exact hq
  · intro g l a W hJ; obtain rfl := hJ.1; exact ⟨_, rfl, wp_seq (wp_skip (ra_pass (B := B) (gr := w0.heap.size) HV0 HHH hQ rfl rfl hJ))⟩
end Go.Proofs.YtlaiocdnddnnaaaGreatDoor
namespace Go.Proofs.YtlaiocdnddnnaaaGreatDoor
open Go.RowKit
section
variable {o : Oper} {a : Act} {w W : World} {K : Act → World → Prop} {Q : Exit → Act → World → Prop} {bs : Bxs} {g : Nat}
theorem st_rd (i : Nat) (H : Hid (BX w bs W)) {A S A0 S0 : Option Addr} {n c m d n0 c0 m0 d0 : Nat} {x y x0 y0 : Int} (hi : bs[i]? = some (g, 84, rd4 A0 n0 c0 x0 y0 (.slice S0 m0 d0))) (p q : Operand) (ho : o.op = .store 84 p q) (hx : a.eval p = .pointer (some ⟨g, 0, none⟩)) (hy : a.eval q = .agg (rd4 A n c x y (.slice S m d)).toArray)
    (h : ∀ W', Hid (BX w (bs.set i (g, 84, rd4 A n c x y (.slice S m d))) W') → K (a.put o.dst undef) W') : o.wp Tryz.prog a W K Q := st_g (cs := rd4 A0 n0 c0 x0 y0 (.slice S0 m0 d0)) (vs := rd4 A n c x y (.slice S m d)) rtRdr rd4_one H hi rfl p q ho hx hy h
theorem res_enn {fn : Func} {q r r' : Tmp} (h : fn.results = #[.cell q 47, .tmp r, .tmp r']) {tmps : Array Value} {p : Pay} {v u u' : Value} (i : Nat) (H : Hid (BX w bs W)) (hi : bs[i]? = some (g, 47, ec p v)) (hp : tmps.getD q undef = .pointer (some ⟨g, 0, none⟩)) (hr : tmps.getD r undef = u) (hr' : tmps.getD r' undef = u') :
    (results fn tmps).run Tryz.prog W = .ok (.tuple #[.agg (ec p v).toArray, u, u']) W := by
  have h0 : tmps[q]?.getD undef = .pointer (some ⟨g, 0, none⟩) := by simpa using hp
  have h1 : tmps[r]?.getD undef = u := by simpa using hr
  have h2 : tmps[r']?.getD undef = u' := by simpa using hr'
  simp [results, h, h0, h1, h2, asAddr, bx_load (cs := ec p v) rtExpr H hi]
end
set_option maxRecDepth 20000 in
set_option maxHeartbeats 4000000 in
theorem count_at {w : World} {A : Option Addr} {n c : Nat} {at_ cnt E : Int} {k : Nat} {ops : List Tr} (HR : Hid (∀ W0 : World, Below w.heap.size w W0 → Calls Tryz.prog 31 #[.slice A n c] W0 fun e W => ∃ (S : Option Addr) (c1 : Nat), e = .returned (.tuple #[.agg (rd4 A n c at_ cnt (.slice S k c1)).toArray, .int .i64 E]) ∧ (k ≤ c1 ∧ RowF treeF W (fun i => W0.heap.size ≤ i ∧ i < W.heap.size) S k ops) ∧ Below W0.heap.size W0 W)) :
    Calls Tryz.prog 15 #[.slice A n c] w fun e W => e = .returned (.int .i64 cnt) ∧ Below w.heap.size w W := by
  have HB : Hid (BX w [] w) := Lib.hid (BX.start w); go_enter Tryz.func15, Tryz.ntmps15
  repeat' (first | go_values | go_skip | go_guarded | go_step | go_upon)
  refine (HR.out _ HB.out.bel).mono ?_; rintro e W1 ⟨S, c1, rfl, hr, hb⟩; have HB := Lib.hid (HB.out.call hb); clear hb hr; dsimp only
  repeat' (first | ((with_reducible show Oper.wp _ _ _ _ _ _); with_reducible refine stop_al rfl ?_) | go_values | go_skip | go_guarded | go_step | go_upon)
  refine Lib.hid ?_; refine al_g HB 84 (rd4 none 0 0 0 0 (.slice none 0 0)) (by kernel_rfl) ?_; clear HB; intro g0 W HB; go_simp
  repeat' (first | ((with_reducible show Oper.wp _ _ _ _ _ _); with_reducible refine stop_st _ _ rfl ?_) | go_values | go_skip | go_guarded | go_step | go_upon)
  refine Lib.hid ?_; refine st_rd 0 HB rfl _ _ rfl rfl rfl ?_; clear HB; intro W HB; dsimp only [List.set] at HB; go_simp
  repeat' (first | ((with_reducible show Oper.wp _ _ _ _ _ _); with_reducible refine is_ld 3 _ rfl ?_; refine lf_int 0 HB rfl _ rfl rfl rfl ?_; go_simp) | go_values | go_skip | go_guarded | go_step | go_upon)
  go_ret; exact ⟨rfl, HB.out.bel⟩
set_option maxRecDepth 20000 in
set_option maxHeartbeats 4000000 in
theorem pdecode_err {w : World} {A : Option Addr} {n c : Nat} {at_ cnt E : Int} {k : Nat} {ops : List Tr} (HR : Hid (∀ W0 : World, Below w.heap.size w W0 → Calls Tryz.prog 31 #[.slice A n c] W0 fun e W => ∃ (S : Option Addr) (c1 : Nat), e = .returned (.tuple #[.agg (rd4 A n c at_ cnt (.slice S k c1)).toArray, .int .i64 E]) ∧ (k ≤ c1 ∧ RowF treeF W (fun i => W0.heap.size ≤ i ∧ i < W.heap.size) S k ops) ∧ Below W0.heap.size W0 W)) (hE : ¬ E = 0) :
    Calls Tryz.prog 12 #[.slice A n c] w fun e W => e = .returned (.tuple #[.agg (ec zp (.slice none 0 0)).toArray, .int .i64 at_, .int .i64 E]) ∧ Below w.heap.size w W := by
  have hE1 : (E == 0) = false := by simpa using hE
  have hE2 : (E != 0) = true := by simpa using hE
  have HB : Hid (BX w [] w) := Lib.hid (BX.start w); go_enter Tryz.func12, Tryz.ntmps12
  repeat' (first | ((with_reducible show Oper.wp _ _ _ _ _ _); with_reducible refine is_al 47 rfl ?_; refine al_g HB 47 (ec zp (.slice none 0 0)) (by kernel_rfl) ?_; clear HB; intro g0 W HB; go_simp) | go_values | go_skip | go_guarded | go_step | go_upon)
  refine (HR.out _ HB.out.bel).mono ?_; rintro e W1 ⟨S, c1, rfl, ⟨hc1, hr⟩, hb⟩; have HB := Lib.hid (HB.out.call hb); have HX := Lib.hid (And.intro hc1 hr); clear hb hr hc1; dsimp only
  repeat' (first | ((with_reducible show Oper.wp _ _ _ _ _ _); with_reducible refine stop_al rfl ?_) | go_values | go_skip | go_guarded | go_step | go_upon)
  refine Lib.hid ?_; refine al_g HB 84 (rd4 none 0 0 0 0 (.slice none 0 0)) (by kernel_rfl) ?_; clear HB; intro g1 W HB; go_simp
  repeat' (first | ((with_reducible show Oper.wp _ _ _ _ _ _); with_reducible refine stop_st _ _ rfl ?_) | go_values | go_skip | go_guarded | go_step | go_upon)
  refine Lib.hid ?_; refine st_rd 0 HB rfl _ _ rfl rfl rfl ?_; clear HB; intro W HB; dsimp only [List.set] at HB; go_simp
  repeat' (first | go_values | go_skip | go_guarded | go_step | go_upon)
  refine wp_region_phases (S := (SBN w [[(g1, 84, rd4 A n c at_ cnt (.slice S k c1)), (g0, 47, ec zp (.slice none 0 0))], [(g1, 84, rd4 A n c at_ cnt (.slice S k c1)), (g0, 47, ec zp (.slice none 0 0))]])) (E := (fun _ _ => True)) [5] [(2, Is (.pointer (some ⟨g0, 0, none⟩))), (5, Is (.pointer (some ⟨g1, 0, none⟩))), (6, Is (.int .i64 E))] [(24, Is (.agg (ec zp (.slice none 0 0)).toArray)), (25, Is (.pointer (some ⟨g1, 0, none⟩))), (26, Is (.pointer (some ⟨g1, 1, none⟩))), (27, Is (.int .i64 at_)), (28, Is (.int .i64 E)), (3, Is (.int .i64 at_)), (4, Is (.int .i64 E))]
    [.op [] none, .op [5] none, .op [25] none, .op [26] none, .op [6] none, .phase 0 [2, 24] [], .op [27] none, .op [28] none] (by as_aux_lemma => kernel_rfl) ?_ ?_ ?_ ?_ ?_ ⟨stable_is _ _, stable_is _ _, stable_is _ _, stable_is _ _, stable_is _ _, stable_is _ _, stable_is _ _, stable_is _ _, stable_is _ _, stable_is _ _, trivial⟩ ?_ HB.out.drew ?_ ?_
  · as_aux_lemma => kernel_rfl
  · as_aux_lemma => kernel_rfl
  · as_aux_lemma => kernel_rfl
  · as_aux_lemma => kernel_rfl
  · as_aux_lemma => kernel_rfl
  · exact ⟨rfl, rfl, rfl, trivial⟩
  · refine ⟨?_, ?_, ?_, ?_, ?_, ?_, ?_, ?_, trivial⟩
    · as_aux_lemma => intro vals a W hS hL; clear hL; refine lands_vB (v := .agg (ec zp (.slice none 0 0)).toArray) (w' := W) (by kernel_rfl) ?_; exact ⟨dstY (by rfl), hS, trivial⟩
    · as_aux_lemma => intro vals a W hS hL; have e5 : a.tmps.getD 5 undef = .pointer (some ⟨g1, 0, none⟩) := hL.1; clear hL; go_simp; exact ⟨dstY (by rfl), hS, trivial⟩
    · as_aux_lemma => intro vals a W hS hL; have e25 : a.tmps.getD 25 undef = .pointer (some ⟨g1, 0, none⟩) := hL.1; clear hL; go_simp; exact ⟨dstY (by rfl), hS, trivial⟩
    · as_aux_lemma => intro vals a W hS hL; have e26 : a.tmps.getD 26 undef = .pointer (some ⟨g1, 1, none⟩) := hL.1; clear hL; have f1 : W.cell? ⟨g1, 1, none⟩ = some (.int .i64 at_) := (hS.get 0 ⟨rfl, rfl, trivial⟩).cell 1; go_simp; exact ⟨dstY (by rfl), hS, trivial⟩
    · as_aux_lemma => intro vals a W hS hL; have e6 : a.tmps.getD 6 undef = .int .i64 E := hL.1; clear hL; go_simp; exact ⟨dstY (by rfl), hS, trivial⟩
    · as_aux_lemma =>
        intro a W vals hv hS hL hp; have e2 : a.tmps.getD 2 undef = .pointer (some ⟨g0, 0, none⟩) := hL.1; have e24 : a.tmps.getD 24 undef = .agg (ec zp (.slice none 0 0)).toArray := hL.2.1; clear hL
        match vals, hv, hS with
        | [], _, hS =>
          refine lands_stg (vs := ec zp (.slice none 0 0)) rtExpr ec_one' (i := 1) (show BX w [(g1, 84, rd4 A n c at_ cnt (.slice S k c1)), (g0, 47, ec zp (.slice none 0 0))] W from hS) rfl rfl (.tmp 2) (.tmp 24) rfl e2 e24 fun W2 h2 => ?_; exact ⟨h2, trivial, trivial⟩
    · as_aux_lemma => intro vals a W hS hL; have e27 : a.tmps.getD 27 undef = .int .i64 at_ := hL.1; clear hL; go_simp; exact ⟨dstY (by rfl), hS, trivial⟩
    · as_aux_lemma => intro vals a W hS hL; have e28 : a.tmps.getD 28 undef = .int .i64 E := hL.1; clear hL; go_simp; exact ⟨dstY (by rfl), hS, trivial⟩
  · intro a W vals hd hsz hT hF hv hP hS
    obtain ⟨v0, rfl⟩ : ∃ v0, vals = [v0] := by
      match vals, hv with
      | [xv0], _ => exact ⟨xv0, rfl⟩
    have HB : Hid (BX w [(g1, 84, rd4 A n c at_ cnt (.slice S k c1)), (g0, 47, ec zp (.slice none 0 0))] W) := Lib.hid hS; have e2 : a.tmps.getD 2 undef = .pointer (some ⟨g0, 0, none⟩) := hT 2 (by simp); have e5 : a.tmps.getD 5 undef = .pointer (some ⟨g1, 0, none⟩) := hT 5 (by simp); have e6 : a.tmps.getD 6 undef = .int .i64 E := hT 6 (by simp); have e3 : a.tmps.getD 3 undef = .int .i64 at_ := hT 3 (by simp); have e4 : a.tmps.getD 4 undef = .int .i64 E := hT 4 (by simp); clear hT hF hP hS; rw [act_lit 40 a hd hsz]; simp only [List.range, List.range.loop, List.map, e2, e5, e6, e3, e4]; clear e2 e5 e6 e3 e4 hsz hd; generalize a.tmps.getD 0 undef = y0, a.tmps.getD 1 undef = y1, a.tmps.getD 7 undef = y7, a.tmps.getD 8 undef = y8, a.tmps.getD 9 undef = y9, a.tmps.getD 10 undef = y10, a.tmps.getD 11 undef = y11, a.tmps.getD 12 undef = y12, a.tmps.getD 13 undef = y13, a.tmps.getD 14 undef = y14, a.tmps.getD 15 undef = y15, a.tmps.getD 16 undef = y16, a.tmps.getD 17 undef = y17, a.tmps.getD 18 undef = y18, a.tmps.getD 19 undef = y19, a.tmps.getD 20 undef = y20, a.tmps.getD 21 undef = y21, a.tmps.getD 22 undef = y22, a.tmps.getD 23 undef = y23, a.tmps.getD 24 undef = y24, a.tmps.getD 25 undef = y25, a.tmps.getD 26 undef = y26, a.tmps.getD 27 undef = y27, a.tmps.getD 28 undef = y28, a.tmps.getD 29 undef = y29, a.tmps.getD 30 undef = y30, a.tmps.getD 31 undef = y31, a.tmps.getD 32 undef = y32, a.tmps.getD 33 undef = y33, a.tmps.getD 34 undef = y34, a.tmps.getD 35 undef = y35, a.tmps.getD 36 undef = y36, a.tmps.getD 37 undef = y37, a.tmps.getD 38 undef = y38, a.tmps.getD 39 undef = y39
    repeat' (first | go_values | go_skip | go_guarded | go_step | go_upon)
    exact bodyPost_ret (res_enn rfl 1 HB rfl rfl rfl rfl) rfl ⟨rfl, HB.out.bel⟩
set_option maxRecDepth 20000 in
set_option maxHeartbeats 4000000 in
theorem pdecode_many {w : World} {A : Option Addr} {n c : Nat} {at_ cnt : Int} {k : Nat} {ops : List Tr} (HR : Hid (∀ W0 : World, Below w.heap.size w W0 → Calls Tryz.prog 31 #[.slice A n c] W0 fun e W => ∃ (S : Option Addr) (c1 : Nat), e = .returned (.tuple #[.agg (rd4 A n c at_ cnt (.slice S k c1)).toArray, .int .i64 (0 : Int)]) ∧ (k ≤ c1 ∧ RowF treeF W (fun i => W0.heap.size ≤ i ∧ i < W.heap.size) S k ops) ∧ Below W0.heap.size W0 W)) (hk : ¬ k = 1) :
    Calls Tryz.prog 12 #[.slice A n c] w fun e W => e = .returned (.tuple #[.agg (ec zp (.slice none 0 0)).toArray, .int .i64 at_, .int .i64 10]) ∧ Below w.heap.size w W := by
  have hk1 : ((k : Int) != 1) = true := by
    rw [bne_iff_ne]; omega
  have HB : Hid (BX w [] w) := Lib.hid (BX.start w); go_enter Tryz.func12, Tryz.ntmps12
  repeat' (first | ((with_reducible show Oper.wp _ _ _ _ _ _); with_reducible refine is_al 47 rfl ?_; refine al_g HB 47 (ec zp (.slice none 0 0)) (by kernel_rfl) ?_; clear HB; intro g0 W HB; go_simp) | go_values | go_skip | go_guarded | go_step | go_upon)
  refine (HR.out _ HB.out.bel).mono ?_; rintro e W1 ⟨S, c1, rfl, ⟨hc1, hr⟩, hb⟩; have HB := Lib.hid (HB.out.call hb); have HX := Lib.hid (And.intro hc1 hr); clear hb hr hc1; dsimp only
  repeat' (first | ((with_reducible show Oper.wp _ _ _ _ _ _); with_reducible refine stop_al rfl ?_) | go_values | go_skip | go_guarded | go_step | go_upon)
  refine Lib.hid ?_; refine al_g HB 84 (rd4 none 0 0 0 0 (.slice none 0 0)) (by kernel_rfl) ?_; clear HB; intro g1 W HB; go_simp
  repeat' (first | ((with_reducible show Oper.wp _ _ _ _ _ _); with_reducible refine stop_st _ _ rfl ?_) | go_values | go_skip | go_guarded | go_step | go_upon)
  refine Lib.hid ?_; refine st_rd 0 HB rfl _ _ rfl rfl rfl ?_; clear HB; intro W HB; dsimp only [List.set] at HB; go_simp
  repeat' (first | ((with_reducible show Oper.wp _ _ _ _ _ _); with_reducible refine is_ld 45 _ rfl ?_; refine lf_es 0 HB rfl _ rfl rfl rfl ?_; go_simp) | go_values | go_skip | go_guarded | go_step | go_upon)
  refine wp_region_phases (S := (SBN w [[(g1, 84, rd4 A n c at_ cnt (.slice S k c1)), (g0, 47, ec zp (.slice none 0 0))], [(g1, 84, rd4 A n c at_ cnt (.slice S k c1)), (g0, 47, ec zp (.slice none 0 0))]])) (E := (fun _ _ => True)) [5] [(2, Is (.pointer (some ⟨g0, 0, none⟩))), (5, Is (.pointer (some ⟨g1, 0, none⟩))), (6, Is (.int .i64 10))] [(24, Is (.agg (ec zp (.slice none 0 0)).toArray)), (25, Is (.pointer (some ⟨g1, 0, none⟩))), (26, Is (.pointer (some ⟨g1, 1, none⟩))), (27, Is (.int .i64 at_)), (28, Is (.int .i64 10)), (3, Is (.int .i64 at_)), (4, Is (.int .i64 10))]
    [.op [] none, .op [5] none, .op [25] none, .op [26] none, .op [6] none, .phase 0 [2, 24] [], .op [27] none, .op [28] none] (by as_aux_lemma => kernel_rfl) ?_ ?_ ?_ ?_ ?_ ⟨stable_is _ _, stable_is _ _, stable_is _ _, stable_is _ _, stable_is _ _, stable_is _ _, stable_is _ _, stable_is _ _, stable_is _ _, stable_is _ _, trivial⟩ ?_ HB.out.drew ?_ ?_
  · as_aux_lemma => kernel_rfl
  · as_aux_lemma => kernel_rfl
  · as_aux_lemma => kernel_rfl
  · as_aux_lemma => kernel_rfl
  · as_aux_lemma => kernel_rfl
  · exact ⟨rfl, rfl, rfl, trivial⟩
  · refine ⟨?_, ?_, ?_, ?_, ?_, ?_, ?_, ?_, trivial⟩
    · as_aux_lemma => intro vals a W hS hL; clear hL; refine lands_vB (v := .agg (ec zp (.slice none 0 0)).toArray) (w' := W) (by kernel_rfl) ?_; exact ⟨dstY (by rfl), hS, trivial⟩
    · as_aux_lemma => intro vals a W hS hL; have e5 : a.tmps.getD 5 undef = .pointer (some ⟨g1, 0, none⟩) := hL.1; clear hL; go_simp; exact ⟨dstY (by rfl), hS, trivial⟩
    · as_aux_lemma => intro vals a W hS hL; have e25 : a.tmps.getD 25 undef = .pointer (some ⟨g1, 0, none⟩) := hL.1; clear hL; go_simp; exact ⟨dstY (by rfl), hS, trivial⟩
    · as_aux_lemma => intro vals a W hS hL; have e26 : a.tmps.getD 26 undef = .pointer (some ⟨g1, 1, none⟩) := hL.1; clear hL; have f1 : W.cell? ⟨g1, 1, none⟩ = some (.int .i64 at_) := (hS.get 0 ⟨rfl, rfl, trivial⟩).cell 1; go_simp; exact ⟨dstY (by rfl), hS, trivial⟩
    · as_aux_lemma => intro vals a W hS hL; have e6 : a.tmps.getD 6 undef = .int .i64 10 := hL.1; clear hL; go_simp; exact ⟨dstY (by rfl), hS, trivial⟩
    · as_aux_lemma =>
        intro a W vals hv hS hL hp; have e2 : a.tmps.getD 2 undef = .pointer (some ⟨g0, 0, none⟩) := hL.1; have e24 : a.tmps.getD 24 undef = .agg (ec zp (.slice none 0 0)).toArray := hL.2.1; clear hL
        match vals, hv, hS with
        | [], _, hS =>
          refine lands_stg (vs := ec zp (.slice none 0 0)) rtExpr ec_one' (i := 1) (show BX w [(g1, 84, rd4 A n c at_ cnt (.slice S k c1)), (g0, 47, ec zp (.slice none 0 0))] W from hS) rfl rfl (.tmp 2) (.tmp 24) rfl e2 e24 fun W2 h2 => ?_; exact ⟨h2, trivial, trivial⟩
    · as_aux_lemma => intro vals a W hS hL; have e27 : a.tmps.getD 27 undef = .int .i64 at_ := hL.1; clear hL; go_simp; exact ⟨dstY (by rfl), hS, trivial⟩
    · as_aux_lemma => intro vals a W hS hL; have e28 : a.tmps.getD 28 undef = .int .i64 10 := hL.1; clear hL; go_simp; exact ⟨dstY (by rfl), hS, trivial⟩
  · intro a W vals hd hsz hT hF hv hP hS
    obtain ⟨v0, rfl⟩ : ∃ v0, vals = [v0] := by
      match vals, hv with
      | [xv0], _ => exact ⟨xv0, rfl⟩
    have HB : Hid (BX w [(g1, 84, rd4 A n c at_ cnt (.slice S k c1)), (g0, 47, ec zp (.slice none 0 0))] W) := Lib.hid hS; have e2 : a.tmps.getD 2 undef = .pointer (some ⟨g0, 0, none⟩) := hT 2 (by simp); have e5 : a.tmps.getD 5 undef = .pointer (some ⟨g1, 0, none⟩) := hT 5 (by simp); have e6 : a.tmps.getD 6 undef = .int .i64 10 := hT 6 (by simp); have e3 : a.tmps.getD 3 undef = .int .i64 at_ := hT 3 (by simp); have e4 : a.tmps.getD 4 undef = .int .i64 10 := hT 4 (by simp); clear hT hF hP hS; rw [act_lit 40 a hd hsz]; simp only [List.range, List.range.loop, List.map, e2, e5, e6, e3, e4]; clear e2 e5 e6 e3 e4 hsz hd; generalize a.tmps.getD 0 undef = y0, a.tmps.getD 1 undef = y1, a.tmps.getD 7 undef = y7, a.tmps.getD 8 undef = y8, a.tmps.getD 9 undef = y9, a.tmps.getD 10 undef = y10, a.tmps.getD 11 undef = y11, a.tmps.getD 12 undef = y12, a.tmps.getD 13 undef = y13, a.tmps.getD 14 undef = y14, a.tmps.getD 15 undef = y15, a.tmps.getD 16 undef = y16, a.tmps.getD 17 undef = y17, a.tmps.getD 18 undef = y18, a.tmps.getD 19 undef = y19, a.tmps.getD 20 undef = y20, a.tmps.getD 21 undef = y21, a.tmps.getD 22 undef = y22, a.tmps.getD 23 undef = y23, a.tmps.getD 24 undef = y24, a.tmps.getD 25 undef = y25, a.tmps.getD 26 undef = y26, a.tmps.getD 27 undef = y27, a.tmps.getD 28 undef = y28, a.tmps.getD 29 undef = y29, a.tmps.getD 30 undef = y30, a.tmps.getD 31 undef = y31, a.tmps.getD 32 undef = y32, a.tmps.getD 33 undef = y33, a.tmps.getD 34 undef = y34, a.tmps.getD 35 undef = y35, a.tmps.getD 36 undef = y36, a.tmps.getD 37 undef = y37, a.tmps.getD 38 undef = y38, a.tmps.getD 39 undef = y39
    repeat' (first | go_values | go_skip | go_guarded | go_step | go_upon)
    exact bodyPost_ret (res_enn rfl 1 HB rfl rfl rfl rfl) rfl ⟨rfl, HB.out.bel⟩
def DcOk (w : World) (p : Pay) (ks : List Tr) (z E : Int) (e : Ending) (W : World) : Prop := ∃ (A : Option Addr) (c : Nat), e = .returned (.tuple #[.agg (ec p (.slice A ks.length c)).toArray, .int .i64 z, .int .i64 E]) ∧ AtT W p ks A c ∧ Below w.heap.size w W
theorem res_enk {fn : Func} {q r r' : Tmp} (h : fn.results = #[.cell q 47, .tmp r, .tmp r']) {tmps : Array Value} {p : Pay} {v u u' : Value} {W : World} {g : Nat} (hk : Bk W g 47 (ec p v).toArray) (hp : tmps.getD q undef = .pointer (some ⟨g, 0, none⟩)) (hr : tmps.getD r undef = u) (hr' : tmps.getD r' undef = u') :
    (results fn tmps).run Tryz.prog W = .ok (.tuple #[.agg (ec p v).toArray, u, u']) W := by
  have hl := run_loadVar_row (P := Tryz.prog) W g 47 47 (ec p v).toArray (0, 0) _ hk Tryz.underlying47 rfl (by rw [ec_size]; kernel_rfl); have h0 : tmps[q]?.getD undef = .pointer (some ⟨g, 0, none⟩) := by simpa using hp
  have h1 : tmps[r]?.getD undef = u := by simpa using hr
  have h2 : tmps[r']?.getD undef = u' := by simpa using hr'
  simp [results, h, h0, h1, h2, asAddr, hl]
set_option maxRecDepth 20000 in
set_option maxHeartbeats 4000000 in
theorem pdecode_ok {w : World} {A : Option Addr} {n c : Nat} {at_ cnt : Int} {p : Pay} {ks : List Tr} (HR : Hid (∀ W0 : World, Below w.heap.size w W0 → Calls Tryz.prog 31 #[.slice A n c] W0 fun e W => ∃ (S : Option Addr) (c1 : Nat), e = .returned (.tuple #[.agg (rd4 A n c at_ cnt (.slice S 1 c1)).toArray, .int .i64 (0 : Int)]) ∧ (1 ≤ c1 ∧ RowF treeF W (fun i => W0.heap.size ≤ i ∧ i < W.heap.size) S 1 [.mk p ks]) ∧ Below W0.heap.size W0 W)) (HCK : Hid (∀ (W : World) (A : Option Addr) (c : Nat), Below w.heap.size w W → AtT W p ks A c → Calls Tryz.prog 24 #[.agg (ec p (.slice A ks.length c)).toArray] W fun e W' => e = .returned (.int .i64 (0 : Int)) ∧ Below W.heap.size W W')) :
    Calls Tryz.prog 12 #[.slice A n c] w fun e W => DcOk w p ks 0 0 e W := by
  have hz0 := HR; have HB : Hid (BX w [] w) := Lib.hid (BX.start w); go_enter Tryz.func12, Tryz.ntmps12
  repeat' (first | ((with_reducible show Oper.wp _ _ _ _ _ _); with_reducible refine is_al 47 rfl ?_; refine al_g HB 47 (ec zp (.slice none 0 0)) (by kernel_rfl) ?_; clear HB; intro g0 W HB; go_simp) | go_values | go_skip | go_guarded | go_step | go_upon)
  refine (HR.out _ HB.out.bel).mono ?_; rintro e W1 ⟨S, c1, rfl, ⟨hc1, hr⟩, hb⟩; have HG : Hid (Bk W1 g0 47 (ec zp (.slice none 0 0)).toArray ∧ w.heap.size ≤ g0 ∧ g0 < W1.heap.size ∧ Below w.heap.size w W1) := Lib.hid ⟨(HB.out.get (i := 0) rfl).below hb (HB.out.get (i := 0) rfl).lt, HB.out.lo _ (List.mem_cons_self ..), Nat.lt_of_lt_of_le (HB.out.get (i := 0) rfl).lt hb.size, HB.out.bel.trans (hb.mono HB.out.bel.size)⟩; have hlt0 := (HB.out.get (i := 0) rfl).lt; obtain ⟨a0, rfl, hab, hall⟩ := hr.at_ (by decide); obtain ⟨cs, hcs, hcell⟩ := hall 0 (.mk p ks) rfl; obtain ⟨A1, c2, rfl, hc2, hkr⟩ := tree_mk.1 (show LiT W1 (fun i => W.heap.size ≤ i ∧ i < W1.heap.size) (.mk p ks) cs from hcs); rw [show 0 * treeF.k = 0 from rfl] at hcell; simp only [Nat.zero_add] at hcell; have HX : Hid (a0.block < W1.heap.size ∧ (∀ (j : Nat) (u : Value), (ec p (.slice A1 ks.length c2))[j]? = some u → W1.cell? (a0.add j) = some u) ∧ ks.length ≤ c2 ∧ RowF treeF W1 (fun i => g0 < i ∧ i < W1.heap.size) A1 ks.length ks) := Lib.hid ⟨hab.2, hcell, hc2, hkr.move (Move.wide fun i hi => ⟨Nat.lt_of_lt_of_le hlt0 hi.1, hi.2⟩)⟩; clear hb hr hc2 hkr hab hall hcs hcell hlt0 HB; have HB : Hid (BX W1 [] W1) := Lib.hid (BX.start W1); dsimp only
  repeat' (first | ((with_reducible show Oper.wp _ _ _ _ _ _); with_reducible refine stop_al rfl ?_) | go_values | go_skip | go_guarded | go_step | go_upon)
  refine Lib.hid ?_; refine al_g HB 84 (rd4 none 0 0 0 0 (.slice none 0 0)) (by kernel_rfl) ?_; clear HB; intro g1 W HB; go_simp
  repeat' (first | ((with_reducible show Oper.wp _ _ _ _ _ _); with_reducible refine stop_st _ _ rfl ?_) | go_values | go_skip | go_guarded | go_step | go_upon)
  refine Lib.hid ?_; refine st_rd 0 HB rfl _ _ rfl rfl rfl ?_; clear HB; intro W HB; dsimp only [List.set] at HB; go_simp
  repeat' (first | ((with_reducible show Oper.wp _ _ _ _ _ _); (first | (with_reducible refine is_ld 45 _ rfl ?_; refine lf_es 0 HB rfl _ rfl rfl rfl ?_; go_simp) | with_reducible refine stop_ld (ty := 47) _ rfl ?_)) | go_values | go_skip | go_guarded | go_step | go_upon)
  refine Lib.hid ?_; refine ldm_g (cs := ec p (.slice A1 ks.length c2)) rtExpr _ rfl rfl (fun j u hu => (HB.out.bel.cell (p := a0.add j) (by rw [add_block]; exact HX.out.1)).trans (HX.out.2.1 j u hu)) ?_; go_simp
  repeat' (first | ((with_reducible show Oper.wp _ _ _ _ _ _); (first | (with_reducible refine is_al 47 rfl ?_; refine al_g HB 47 (ec zp (.slice none 0 0)) (by kernel_rfl) ?_; clear HB; intro g2 W HB; go_simp) | (with_reducible refine is_ld 47 _ rfl ?_; refine ld_ec 0 HB rfl _ rfl rfl ?_; go_simp) | (with_reducible refine is_st 47 _ _ rfl ?_; refine st_ec 0 HB rfl _ _ rfl rfl rfl ?_; clear HB; intro W HB; dsimp only [List.set] at HB; go_simp))) | go_values | go_skip | go_guarded | go_step | go_upon)
  refine (HCK.out _ A1 c2 (HG.out.2.2.2.trans (HB.out.bel.mono HG.out.2.2.2.size)) ⟨HX.out.2.2.1, (HX.out.2.2.2.move (Move.of_below HB.out.bel (fun i hi => hi.2) fun i hi => Nat.lt_of_lt_of_le hi.2 HB.out.bel.size))⟩).mono ?_; rintro e W2 ⟨rfl, hb⟩; have HB := Lib.hid (HB.out.call hb); clear hb; dsimp only
  repeat' (first | ((with_reducible show Oper.wp _ _ _ _ _ _); (first | (with_reducible refine is_ld 47 _ rfl ?_; refine ld_ec 0 HB rfl _ rfl rfl ?_; go_simp) | with_reducible refine stop_st _ _ rfl ?_)) | go_values | go_skip | go_guarded | go_step | go_upon)
  refine Lib.hid ?_; refine st_p (g := g0) (p := p) _ _ rfl rfl rfl (HG.out.1.below HB.out.bel HG.out.2.2.1) rfl ?_; intro W3 hk3 hK3 hz3; have HK := Lib.hid (And.intro hk3 hK3); clear hk3 hK3 hz3; go_simp
  repeat' (first | go_values | go_skip | go_guarded | go_step | go_upon)
  have hbel : Below w.heap.size w W3 := HG.out.2.2.2.trans ((HB.out.bel.mono HG.out.2.2.2.size).trans (HK.out.2.below (B := w.heap.size) (by have := HG.out.2.2.2.size; have := HB.out.bel.size; omega) fun i hi e => by have := HG.out.2.1; omega)); refine bodyPost_ret (res_enk rfl HK.out.1 rfl rfl rfl) rfl ⟨A1, c2, rfl, ⟨HX.out.2.2.1, HX.out.2.2.2.move fun i hi => ⟨?_, ?_⟩⟩, hbel⟩
  · exact Nat.lt_of_lt_of_le hi.2 (Nat.le_trans HB.out.bel.size HK.out.2.size)
  · exact (HK.out.2.block i (Nat.lt_of_lt_of_le hi.2 HB.out.bel.size) (by have := hi.1; omega)).trans (HB.out.bel.block i hi.2)
set_option maxRecDepth 20000 in
set_option maxHeartbeats 4000000 in
theorem pdecode_bad {w : World} {A : Option Addr} {n c : Nat} {at_ cnt E : Int} {p : Pay} {ks : List Tr} (HR : Hid (∀ W0 : World, Below w.heap.size w W0 → Calls Tryz.prog 31 #[.slice A n c] W0 fun e W => ∃ (S : Option Addr) (c1 : Nat), e = .returned (.tuple #[.agg (rd4 A n c at_ cnt (.slice S 1 c1)).toArray, .int .i64 (0 : Int)]) ∧ (1 ≤ c1 ∧ RowF treeF W (fun i => W0.heap.size ≤ i ∧ i < W.heap.size) S 1 [.mk p ks]) ∧ Below W0.heap.size W0 W)) (HCK : Hid (∀ (W : World) (A : Option Addr) (c : Nat), Below w.heap.size w W → AtT W p ks A c → Calls Tryz.prog 24 #[.agg (ec p (.slice A ks.length c)).toArray] W fun e W' => e = .returned (.int .i64 E) ∧ Below W.heap.size W W')) (hE : ¬ E = 0) :
    Calls Tryz.prog 12 #[.slice A n c] w fun e W => e = .returned (.tuple #[.agg (ec zp (.slice none 0 0)).toArray, .int .i64 0, .int .i64 E]) ∧ Below w.heap.size w W := by
  have hE2 : (E != 0) = true := by simpa using hE
  have HB : Hid (BX w [] w) := Lib.hid (BX.start w); go_enter Tryz.func12, Tryz.ntmps12
  repeat' (first | ((with_reducible show Oper.wp _ _ _ _ _ _); with_reducible refine is_al 47 rfl ?_; refine al_g HB 47 (ec zp (.slice none 0 0)) (by kernel_rfl) ?_; clear HB; intro g0 W HB; go_simp) | go_values | go_skip | go_guarded | go_step | go_upon)
  refine (HR.out _ HB.out.bel).mono ?_; rintro e W1 ⟨S, c1, rfl, ⟨hc1, hr⟩, hb⟩; have HG : Hid (Bk W1 g0 47 (ec zp (.slice none 0 0)).toArray ∧ w.heap.size ≤ g0 ∧ g0 < W1.heap.size ∧ Below w.heap.size w W1) := Lib.hid ⟨(HB.out.get (i := 0) rfl).below hb (HB.out.get (i := 0) rfl).lt, HB.out.lo _ (List.mem_cons_self ..), Nat.lt_of_lt_of_le (HB.out.get (i := 0) rfl).lt hb.size, HB.out.bel.trans (hb.mono HB.out.bel.size)⟩; have hlt0 := (HB.out.get (i := 0) rfl).lt; obtain ⟨a0, rfl, hab, hall⟩ := hr.at_ (by decide); obtain ⟨cs, hcs, hcell⟩ := hall 0 (.mk p ks) rfl; obtain ⟨A1, c2, rfl, hc2, hkr⟩ := tree_mk.1 (show LiT W1 (fun i => W.heap.size ≤ i ∧ i < W1.heap.size) (.mk p ks) cs from hcs); rw [show 0 * treeF.k = 0 from rfl] at hcell; simp only [Nat.zero_add] at hcell; have HX : Hid (a0.block < W1.heap.size ∧ (∀ (j : Nat) (u : Value), (ec p (.slice A1 ks.length c2))[j]? = some u → W1.cell? (a0.add j) = some u) ∧ ks.length ≤ c2 ∧ RowF treeF W1 (fun i => g0 < i ∧ i < W1.heap.size) A1 ks.length ks) := Lib.hid ⟨hab.2, hcell, hc2, hkr.move (Move.wide fun i hi => ⟨Nat.lt_of_lt_of_le hlt0 hi.1, hi.2⟩)⟩; clear hb hr hc2 hkr hab hall hcs hcell hlt0 HB; have HB : Hid (BX W1 [] W1) := Lib.hid (BX.start W1); dsimp only
  repeat' (first | ((with_reducible show Oper.wp _ _ _ _ _ _); with_reducible refine stop_al rfl ?_) | go_values | go_skip | go_guarded | go_step | go_upon)
  refine Lib.hid ?_; refine al_g HB 84 (rd4 none 0 0 0 0 (.slice none 0 0)) (by kernel_rfl) ?_; clear HB; intro g1 W HB; go_simp
  repeat' (first | ((with_reducible show Oper.wp _ _ _ _ _ _); with_reducible refine stop_st _ _ rfl ?_) | go_values | go_skip | go_guarded | go_step | go_upon)
  refine Lib.hid ?_; refine st_rd 0 HB rfl _ _ rfl rfl rfl ?_; clear HB; intro W HB; dsimp only [List.set] at HB; go_simp
  repeat' (first | ((with_reducible show Oper.wp _ _ _ _ _ _); (first | (with_reducible refine is_ld 45 _ rfl ?_; refine lf_es 0 HB rfl _ rfl rfl rfl ?_; go_simp) | with_reducible refine stop_ld (ty := 47) _ rfl ?_)) | go_values | go_skip | go_guarded | go_step | go_upon)
  refine Lib.hid ?_; refine ldm_g (cs := ec p (.slice A1 ks.length c2)) rtExpr _ rfl rfl (fun j u hu => (HB.out.bel.cell (p := a0.add j) (by rw [add_block]; exact HX.out.1)).trans (HX.out.2.1 j u hu)) ?_; go_simp
  repeat' (first | ((with_reducible show Oper.wp _ _ _ _ _ _); (first | (with_reducible refine is_al 47 rfl ?_; refine al_g HB 47 (ec zp (.slice none 0 0)) (by kernel_rfl) ?_; clear HB; intro g2 W HB; go_simp) | (with_reducible refine is_ld 47 _ rfl ?_; refine ld_ec 0 HB rfl _ rfl rfl ?_; go_simp) | (with_reducible refine is_st 47 _ _ rfl ?_; refine st_ec 0 HB rfl _ _ rfl rfl rfl ?_; clear HB; intro W HB; dsimp only [List.set] at HB; go_simp))) | go_values | go_skip | go_guarded | go_step | go_upon)
  refine (HCK.out _ A1 c2 (HG.out.2.2.2.trans (HB.out.bel.mono HG.out.2.2.2.size)) ⟨HX.out.2.2.1, (HX.out.2.2.2.move (Move.of_below HB.out.bel (fun i hi => hi.2) fun i hi => Nat.lt_of_lt_of_le hi.2 HB.out.bel.size))⟩).mono ?_; rintro e W2 ⟨rfl, hb⟩; have HB := Lib.hid (HB.out.call hb); clear hb; dsimp only
  repeat' (first | ((with_reducible show Oper.wp _ _ _ _ _ _); with_reducible refine stop_bd rfl ?_) | go_values | go_skip | go_guarded | go_step | go_upon)
  refine Lib.hid ?_; refine wp_b (v := .agg (ec zp (.slice none 0 0)).toArray) (by kernel_rfl) ?_; go_simp
  repeat' (first | ((with_reducible show Oper.wp _ _ _ _ _ _); with_reducible refine stop_st _ _ rfl ?_) | go_values | go_skip | go_guarded | go_step | go_upon)
  refine Lib.hid ?_; refine st_p (g := g0) (p := zp) _ _ rfl rfl rfl (HG.out.1.below HB.out.bel HG.out.2.2.1) rfl ?_; intro W3 hk3 hK3 hz3; have HK := Lib.hid (And.intro hk3 hK3); clear hk3 hK3 hz3; go_simp
  repeat' (first | go_values | go_skip | go_guarded | go_step | go_upon)
  have hbel : Below w.heap.size w W3 := HG.out.2.2.2.trans ((HB.out.bel.mono HG.out.2.2.2.size).trans (HK.out.2.below (B := w.heap.size) (by have := HG.out.2.2.2.size; have := HB.out.bel.size; omega) fun i hi e => by have := HG.out.2.1; omega)); exact bodyPost_ret (res_enk rfl HK.out.1 rfl rfl rfl) rfl ⟨rfl, hbel⟩
def DeOk (w : World) (l : List UInt8) (e : Ending) (W : World) : Prop := ∃ (p : Pay) (ks : List Tr) (A : Option Addr) (c : Nat), e = .returned (.tuple #[.agg (ec p (.slice A ks.length c)).toArray, .int .i64 (deA l), .int .i64 (deE l)]) ∧ AtT W p ks A c ∧ deR l = .mk p ks ∧ Below w.heap.size w W
section
variable {w : World} {A : Option Addr} {n c B : Nat} {l : List UInt8}
theorem count_any12 (HV : Val w) (h : Rd w B 1 A n (l.map bv)) (hnc : n ≤ c) (hn : n ≤ 100000) (hB : B ≤ w.heap.size) : Calls Tryz.prog 15 #[.slice A n c] w fun e W => e = .returned (.int .i64 ((alT l).2.1 : Nat)) ∧ Below w.heap.size w W :=
  count_at (at_ := ((alT l).1 : Nat)) (cnt := ((alT l).2.1 : Nat)) (E := (alT l).2.2.2) (k := (alT l).2.2.1.length) (ops := (alT l).2.2.1) (Lib.hid fun W0 hb => (readAll_any (HV.below hb) (h.belowMono hb hB) hnc hn (Nat.le_trans hB hb.size)).mono fun e W ⟨S, c', h1, h2, h3, h4⟩ => ⟨S, c', h1, ⟨h2, h3⟩, h4⟩)
theorem pdecode_any (HV : Val w) (h : Rd w B 1 A n (l.map bv)) (hnc : n ≤ c) (hn : n ≤ 100000) (hB : B ≤ w.heap.size) : Calls Tryz.prog 12 #[.slice A n c] w fun e W => DeOk w l e W := by
  have HR := fun (W0 : World) (hb : Below w.heap.size w W0) => readAll_any (HV.below hb) (h.belowMono hb hB) hnc hn (Nat.le_trans hB hb.size); obtain ⟨i1, -, i3⟩ := al_inv l
  by_cases hE : (alT l).2.2.2 = 0
  · by_cases hk : (alT l).2.2.1.length = 1
    · obtain ⟨⟨p, ks⟩, ht⟩ : ∃ t, (alT l).2.2.1 = [t] := by
        match hx : (alT l).2.2.1, hk with
        | [t], _ => exact ⟨t, rfl⟩
      have hC : cntT (.mk p ks) ≤ 100000 := by
        rw [ht] at i1; simp only [cntL] at i1; omega
      have hS : ShortN (ndT (.mk p ks)) := fun q hq => by
        have := i3 q (by rw [ht]; simp only [ndL, List.append_nil]; exact hq); omega
      have e1 : topT (alT l).2.2.1 = .mk p ks := by rw [ht]; rfl
      have eE : deE l = ckT oneE (.mk p ks) := by rw [deE, if_pos hE, if_pos hk, e1]
      have eA : deA l = 0 := by rw [deA, if_pos ⟨hE, hk⟩]
      have HC : ∀ (W : World) (A : Option Addr) (c : Nat), Below w.heap.size w W → AtT W p ks A c → Calls Tryz.prog 24 #[.agg (ec p (.slice A ks.length c)).toArray] W fun e W' => e = .returned (.int .i64 (ckT oneE (.mk p ks))) ∧ Below W.heap.size W W' := fun W A c hb ha => check_t (HV.below hb) ha hC hS
      have HR1 : ∀ W0 : World, Below w.heap.size w W0 → Calls Tryz.prog 31 #[.slice A n c] W0 fun e W => ∃ (S : Option Addr) (c1 : Nat), e = .returned (.tuple #[.agg (rd4 A n c ((alT l).1 : Nat) ((alT l).2.1 : Nat) (.slice S 1 c1)).toArray, .int .i64 (0 : Int)]) ∧ (1 ≤ c1 ∧ RowF treeF W (fun i => W0.heap.size ≤ i ∧ i < W.heap.size) S 1 [.mk p ks]) ∧ Below W0.heap.size W0 W := fun W0 hb => (HR W0 hb).mono fun e W ⟨S, c', h1, h2, h3, h4⟩ => by
        rw [ht] at h1 h2 h3; rw [hE] at h1; exact ⟨S, c', h1, ⟨h2, h3⟩, h4⟩
      by_cases hz : ckT oneE (.mk p ks) = 0
      · rw [hz] at HC; refine (pdecode_ok (Lib.hid HR1) (Lib.hid HC)).mono ?_; rintro e W ⟨A', c', rfl, ha, hb⟩; exact ⟨p, ks, A', c', by rw [eA, eE, hz], ha, by rw [deR, eE, if_pos hz, e1], hb⟩
      · refine (pdecode_bad (Lib.hid HR1) (Lib.hid HC) hz).mono ?_; rintro e W ⟨rfl, hb⟩; exact ⟨zp, [], none, 0, by rw [eA, eE]; rfl, ⟨Nat.le_refl _, RowF.nil _ _ _ _⟩, by rw [deR, eE, if_neg hz], hb⟩
    · have eE : deE l = 10 := by rw [deE, if_pos hE, if_neg hk]
      have eA : deA l = ((alT l).1 : Nat) := by rw [deA, if_neg fun h => hk h.2]
      refine (pdecode_many (at_ := ((alT l).1 : Nat)) (cnt := ((alT l).2.1 : Nat)) (ops := (alT l).2.2.1) (Lib.hid fun W0 hb => (HR W0 hb).mono fun e W ⟨S, c', h1, h2, h3, h4⟩ => ⟨S, c', by rw [← hE]; exact h1, ⟨h2, h3⟩, h4⟩) hk).mono ?_; rintro e W ⟨rfl, hb⟩; exact ⟨zp, [], none, 0, by rw [eA, eE]; rfl, ⟨Nat.le_refl _, RowF.nil _ _ _ _⟩, by rw [deR, eE, if_neg (by decide)], hb⟩
  · have eE : deE l = (alT l).2.2.2 := by rw [deE, if_neg hE]
    have eA : deA l = ((alT l).1 : Nat) := by rw [deA, if_neg fun h => hE h.1]
    refine (pdecode_err (at_ := ((alT l).1 : Nat)) (cnt := ((alT l).2.1 : Nat)) (ops := (alT l).2.2.1) (Lib.hid fun W0 hb => (HR W0 hb).mono fun e W ⟨S, c', h1, h2, h3, h4⟩ => ⟨S, c', h1, ⟨h2, h3⟩, h4⟩) hE).mono ?_; rintro e W ⟨rfl, hb⟩; exact ⟨zp, [], none, 0, by rw [eA, eE]; rfl, ⟨Nat.le_refl _, RowF.nil _ _ _ _⟩, by rw [deR, eE, if_neg hE], hb⟩
end
end Go.Proofs.YtlaiocdnddnnaaaGreatDoor
