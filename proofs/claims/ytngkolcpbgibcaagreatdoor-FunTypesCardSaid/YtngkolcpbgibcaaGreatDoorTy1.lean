/- What FunTypes asks: many Args, one by one. No condition. -/
/- cashbooklaw11.FunTypes where the value is long or none. Condition: the tables are laid. -/
import Derived.Test.YtngkolcpbgibcaaGreatDoorKb
import Derived.Test.YtngkolcpbgibcaaGreatDoorKd
import Derived.Test.YtngkolcpbgibcaaGreatDoorV5
set_option linter.unusedVariables false
set_option linter.unusedSimpArgs false
namespace Go.Proofs.YtngkolcpbgibcaaGreatDoor
open Go.RowKit
def MX (W : World) (q : Nat) (x : VX) (cs : List Value) (k : Nat) : Prop := cs.length = 62 ∧ ∀ i, i < k → ∃ g, cs[2 * i]? = some (.bool false) ∧ cs[2 * i + 1]? = some (.slice (some ⟨g, 0, none⟩) 1 1) ∧ g ≠ q ∧ Bk W g 32 (vc x).toArray
theorem MX.below {W W' : World} {q k : Nat} {x : VX} {cs : List Value} (h : MX W q x cs k) (hb : Below W.heap.size W W') : MX W' q x cs k := ⟨h.1, fun i hi => by
  obtain ⟨g, h0, h1, h2, h3⟩ := h.2 i hi
  exact ⟨g, h0, h1, h2, h3.below hb h3.lt⟩⟩
theorem MX.put {W W' : World} {q k g : Nat} {x : VX} {cs : List Value} (h : MX W q x cs k) (hk : k < 31) (hg : g ≠ q) (hb : Bk W g 32 (vc x).toArray) (hK : Keep (fun i => i = q) W W') :
    MX W' q x (cs.take (k * 2) ++ ac false (some ⟨g, 0, none⟩) 1 1 ++ cs.drop (k * 2 + (ac false (some ⟨g, 0, none⟩) 1 1).length)) (k + 1) := by
  have hl := h.1; refine ⟨by simp [ac]; omega, fun i hi => ?_⟩
  by_cases hik : i < k
  · obtain ⟨g', h0, h1, h2, h3⟩ := h.2 i hik; refine ⟨g', ?_, ?_, h2, hK.bk h3 h2⟩
    · rw [List.append_assoc, List.getElem?_append_left (by simp; omega), List.getElem?_take_of_lt (by omega), h0]
    · rw [List.append_assoc, List.getElem?_append_left (by simp; omega), List.getElem?_take_of_lt (by omega), h1]
  · obtain rfl : i = k := by omega
    have e : (cs.take (i * 2)).length = i * 2 := by rw [List.length_take]; omega
    refine ⟨g, ?_, ?_, hg, hK.bk hb hg⟩
    · rw [List.append_assoc, List.getElem?_append_right (by omega), e, show 2 * i - i * 2 = 0 by omega]; rfl
    · rw [List.append_assoc, List.getElem?_append_right (by omega), e, show 2 * i + 1 - i * 2 = 1 by omega]; rfl
theorem MX.row {W : World} {q : Nat} {x : VX} {cs : List Value} (h : MX W q x cs 31) (hb : Bk W q 55 cs.toArray) : RowF argF W (· < W.heap.size) (some ⟨q, 0, none⟩) 31 (List.replicate 31 (false, [x])) := by
  refine ⟨by simp, fun _ => ⟨_, rfl, hb.lt, fun i y hi => ?_⟩⟩
  have hi31 : i < 31 := by
    have := (List.getElem?_eq_some_iff.1 hi).1
    simpa using this
  obtain rfl : y = (false, [x]) := by
    rw [List.getElem?_replicate, if_pos hi31] at hi; exact (Option.some.inj hi).symm
  obtain ⟨g, h0, h1, h2, h3⟩ := h.2 i hi31; refine ⟨ac false (some ⟨g, 0, none⟩) 1 1, ⟨_, 1, rfl, Nat.le_refl _, rfl, fun _ => ⟨_, rfl, h3.lt, fun i y hi => ?_⟩⟩, fun j u hu => ?_⟩
  · cases i with
    | zero =>
      simp only [List.getElem?_cons_zero, Option.some.injEq] at hi; subst hi; exact ⟨_, rfl, fun j u hu => by rw [Nat.zero_mul, Nat.zero_add, addr_zero, h3.cell]; simpa using hu⟩
    | succ i => simp at hi
  · have hu' : (ac false (some ⟨g, 0, none⟩) 1 1)[j]? = some u := hu; rw [addr_zero, hb.cell]
    rcases j with _ | _ | j
    · have : u = .bool false := by simpa [ac] using hu'.symm
      subst this; have : cs.toArray[i * 2 + 0]? = cs[2 * i]? := by rw [List.getElem?_toArray, show i * 2 + 0 = 2 * i by omega]
      exact this.trans h0
    · have : u = .slice (some ⟨g, 0, none⟩) 1 1 := by simpa [ac] using hu'.symm
      subst this; have : cs.toArray[i * 2 + 1]? = cs[2 * i + 1]? := by rw [List.getElem?_toArray, show i * 2 + 1 = 2 * i + 1 by omega]
      exact this.trans h1
    · simp [ac] at hu'
section
variable {o : Oper} {a : Act} {w W : World} {K : Act → World → Prop} {Q : Exit → Act → World → Prop} {bs : Bxs} {g : Nat} {T : TypeId} {cs : List Value} {b : Bool} {A : Option Addr} {n c : Nat}
theorem st_am (i k : Nat) (H : Hid (BX w bs W)) (hi : bs[i]? = some (g, T, cs)) (hl : k * 2 + 2 ≤ cs.length) (x y : Operand) (ho : o.op = .store 55 x y) (hx : a.eval x = .pointer (some ⟨g, k * 2, none⟩)) (hy : a.eval y = .agg (ac b A n c).toArray)
    (h : ∀ W', Hid (BX w (bs.set i (g, T, cs.take (k * 2) ++ ac b A n c ++ cs.drop (k * 2 + (ac b A n c).length))) W') → Keep (fun j => j = g) W W' → K (a.put o.dst undef) W') : o.wp Tryz.prog a W K Q := by
  have hb := H.out.get hi; refine wp_store_mid _ x y ho g (k * 2) (ac b A n c).toArray hx hy (fun j hj => ?_) (by rw [List.size_toArray]; exact rtArg.size) (all_oneCell_toArray (ac_one b A n c)) ?_
  · rw [List.size_toArray] at hj; have hj2 : j < 2 := hj; rw [hb.cell, hb.frozen]; exact ⟨by simp; omega, rfl⟩
  · have h2 := setCells_bk (ac b A n c) (k * 2) cs W hb hl; exact h _ (Lib.hid (H.out.turn hi h2 (setCells_keep _ _ _))) (setCells_keep _ _ _)
theorem stop_ms {x y : Operand} (ho : o.op = .makeSlice T x y) (h : Hid (o.wp Tryz.prog a W K Q)) : o.wp Tryz.prog a W K Q := h.out
theorem ms_a (H : Hid (BX w bs W)) (ho : o.op = .makeSlice 34 (.const (.int .i64 31)) (.const (.int .i64 31)))
    (h : ∀ g W' cs, cs.length = 62 → Hid (BX w ((g, 55, cs) :: bs) W') → K (a.put o.dst (.slice (some ⟨g, 0, none⟩) 31 31)) W') : o.wp Tryz.prog a W K Q := by
  obtain ⟨i, hi, hz, hs, hb⟩ := argRow.info; have hr := run_make (P := Tryz.prog) W 34 55 i _ argRow.under hi hz .i64 .i64 31 31 (by decide) (by decide) (by rw [hb]; decide) (by decide); obtain ⟨cs, hcs⟩ : ∃ cs : List Value, madeCells (Value.agg (ac false none 0 0).toArray).cells (31 * i.size) = cs.toArray := ⟨_, (Array.toArray_toList).symm⟩
  have hlen : cs.length = 62 := by
    have e := congrArg Array.size hcs; rw [hs] at e; rw [List.size_toArray] at e; exact e.symm.trans (by kernel_rfl)
  have hm := H.out.made 55 cs; have hK := h _ _ cs hlen (Lib.hid hm); clear h hm; unfold Oper.wp execOp; rw [ho]; simp only [Int.reduceToNat] at hr; rw [hcs] at hr; clear hcs hlen ho; simp only [Act.eval, hr, Sem.run_bind, Sem.run_pure, Result.andThen_ok]; exact hK
end
theorem none_no {k : Nat} (h0 : 5 ≤ k) (h1 : k < 30) (a : ¬ k = 11) (b : ¬ k = 12) (c : ¬ k = 18) (d : ¬ k = 25) (e : ¬ k = 28) : takesB k [] = false := by
  rcases (show k = 5 ∨ k = 6 ∨ k = 7 ∨ k = 8 ∨ k = 9 ∨ k = 10 ∨ k = 13 ∨ k = 14 ∨ k = 15 ∨ k = 16 ∨ k = 17 ∨ k = 19 ∨ k = 20 ∨ k = 21 ∨ k = 22 ∨ k = 23 ∨ k = 24 ∨ k = 26 ∨ k = 27 ∨ k = 29 by omega) with rfl | rfl | rfl | rfl | rfl | rfl | rfl | rfl | rfl | rfl | rfl | rfl | rfl | rfl | rfl | rfl | rfl | rfl | rfl | rfl <;> kernel_rfl
theorem many_no {k : Nat} {L : List (Bool × List VX)} (hL : L.length = 31) (h0 : 5 ≤ k) (h1 : k < 30) (a : ¬ k = 11) (b : ¬ k = 12) (c : ¬ k = 18) (d : ¬ k = 25) : takesB k L = false := by
  have hx : ∃ x, fnTab[k]? = some x ∧ x.2.2 < 31 := by
    rcases (show k = 5 ∨ k = 6 ∨ k = 7 ∨ k = 8 ∨ k = 9 ∨ k = 10 ∨ k = 13 ∨ k = 14 ∨ k = 15 ∨ k = 16 ∨ k = 17 ∨ k = 19 ∨ k = 20 ∨ k = 21 ∨ k = 22 ∨ k = 23 ∨ k = 24 ∨ k = 26 ∨ k = 27 ∨ k = 28 ∨ k = 29 by omega) with rfl | rfl | rfl | rfl | rfl | rfl | rfl | rfl | rfl | rfl | rfl | rfl | rfl | rfl | rfl | rfl | rfl | rfl | rfl | rfl | rfl <;> exact ⟨_, rfl, by decide⟩
  obtain ⟨x, hx, hm⟩ := hx; exact takes_few rfl hx (by rw [hL]; omega)
theorem BX.drop1 {w W : World} {b : Nat × TypeId × List Value} {bs : Bxs} (h : BX w (b :: bs) W) : BX w bs W :=
  ⟨h.bel, fun b hm => h.lo b (List.mem_cons_of_mem _ hm), fun b hm => h.bk b (List.mem_cons_of_mem _ hm), (List.nodup_cons.1 h.nd).2⟩
theorem one_row {W : World} {g q : Nat} {x : VX} (hg : Bk W g 32 (vc x).toArray) (hq : Bk W q 55 (ac false (some ⟨g, 0, none⟩) 1 1).toArray) : RowF argF W (· < W.heap.size) (some ⟨q, 0, none⟩) 1 [(false, [x])] :=
  row_args (L := [(.agg (ac false (some ⟨g, 0, none⟩) 1 1).toArray, (false, [x]))]) (fun p hp => by
    simp only [List.mem_cons, List.not_mem_nil, or_false] at hp; subst hp
    exact argv_one hg) (by simpa [agCs] using hq)
def stX : VX → ByteArray
  | .str t => ⟨t.toArray⟩
  | _ => ⟨#[]⟩
theorem vc_str (x : VX) : (vc x)[3]? = some (.string (stX x)) := by cases x <;> rfl
def wantT (k : Int) : Int := if k = 2 then 2 else if k = 3 then 4 else if k = 4 then 16 else 1
theorem typeX_want (x : VX) : typeX x = .num (wantT x.kind) 0 := by cases x <;> rfl
theorem ag_one {x : VX} (h : PG x) : AG [(false, [x])] := ag_ones (l := [x]) (by simp) (by intro y hy; simp at hy; subst hy; exact h)
theorem ag_many {x : VX} {n : Nat} (hn : n ≤ 1000000) (h : PG x) : AG (List.replicate n (false, [x])) := ag_of (by simpa using hn) fun a ha => by
  obtain rfl := (List.mem_replicate.1 ha).2; exact ⟨by simp, fun y hy => by simp at hy; subst hy; exact h⟩
section
variable {w : World} {A : Option Addr} {c : Nat} {x : VX}
theorem ty_29 (HF : FnT w) (h : RowF argF w (· < w.heap.size) A 1 [(false, [x])]) (px : PG x) : Ap w 29 A 1 c (.num (wantT x.kind) 0) :=
  ap_v HF (c := c) (args := [(false, [x])]) (by omega) h (ag_one px) (by kernel_rfl) fun W A' c' hW _ hr => ofv_29 hr fun W' hW' => by
    rw [← typeX_want]; exact typeOf_any x
theorem ty_21 (HF : FnT w) (h : RowF argF w (· < w.heap.size) A 1 [(false, [x])]) (px : PG x) : Ap w 21 A 1 c (.bool (x.kind == 0)) :=
  ap_v HF (c := c) (args := [(false, [x])]) (by omega) h (ag_one px) (by kernel_rfl) fun W A' c' hW _ hr => ofv_21 hr
theorem ty_22 (HF : FnT w) (h : RowF argF w (· < w.heap.size) A 1 [(false, [x])]) (px : PG x) : Ap w 22 A 1 c (.bool (x.kind == 4)) :=
  ap_v HF (c := c) (args := [(false, [x])]) (by omega) h (ag_one px) (by kernel_rfl) fun W A' c' hW _ hr => ofv_22 hr
end
theorem run_bb {o : Oper} {a : Act} {W : World} {p : Nat} {b : Bool} (ho : o.op = .build 32 #[(0, .const (.int .i64 3)), (3, .tmp p)]) (hp : a.tmps.getD p undef = .bool b) : (execOp a.eval o).run Tryz.prog W = .ok (.value (.agg (vc (.bool b)).toArray)) W := by
  have f : a.eval (.tmp p) = .bool b := hp; unfold execOp; rw [ho]; simp only [List.map_toArray, List.map_cons, List.map_nil, f]; clear ho f hp; simp only [vc]; go_simp
theorem want_at {k : Nat} (h : k < 5) : (([1, 1, 2, 4, 16] : List Int).map (Value.int .i64))[k]? = some (.int .i64 (wantT k)) := by
  rcases (show k = 0 ∨ k = 1 ∨ k = 2 ∨ k = 3 ∨ k = 4 by omega) with rfl | rfl | rfl | rfl | rfl <;> rfl
theorem kind_nat (x : VX) : ∃ k : Nat, x.kind = (k : Int) ∧ k < 5 := by cases x <;> exact ⟨_, rfl, by decide⟩
end Go.Proofs.YtngkolcpbgibcaaGreatDoor
namespace Go.Proofs.YtngkolcpbgibcaaGreatDoor
open Go.RowKit
set_option maxRecDepth 20000 in
set_option maxHeartbeats 2000000 in
theorem types_long {w : World} (HF : FnT w) (HT : Tens w) (HV : Val w) (k m s : Int) (t : ByteArray) (b : Bool) (e : Int) (n : Int) (h : 1000 < t.size) :
    Calls Tryz.prog 10 #[.agg #[.int .i64 k, .int .i64 m, .int .i64 s, .string t, .bool b, .int .i64 e], .int .u8 n] w fun x w' => x = .returned (.bool true) ∧ Below w.heap.size w w' := by
  have HN := Lib.hid (fun (W : World) (hb : Below w.heap.size w W) => known_any (HF.below hb) (HT.below hb) (HV.below hb)); have h' : (1000 : Int) < ((t.size : Nat) : Int) := by omega
  clear h HF HT HV; have HB := Lib.hid (sb1 w 32 #[.int .i64 k, .int .i64 m, .int .i64 s, .string t, .bool b, .int .i64 e]); go_enter Tryz.func10, Tryz.ntmps10
  go_wp2_with fail
  refine (HN.out _ HB.out.bel).mono ?_; rintro x w1 ⟨rfl, hb⟩; have hB := HB.out.call hb; clear hb HB; have HB := Lib.hid hB; clear hB; have kv := HB.out.box (i := 0) rfl; have cv3 := kv.cell 3; clear kv; have hbel := HB.out.bel; clear HB HN; go_wp2; go_ret; exact ⟨rfl, hbel⟩
set_option maxRecDepth 20000 in
set_option maxHeartbeats 2000000 in
theorem types_bad {w : World} (HF : FnT w) (HT : Tens w) (HV : Val w) (k m s : Int) (t : ByteArray) (b : Bool) (e : Int) (n : Int) (E : Int) (h : t.size ≤ 1000) (hE : ¬ E = 0) (HK : ∀ W : World, Below w.heap.size w W → Calls Tryz.prog 17 #[.agg #[.int .i64 k, .int .i64 m, .int .i64 s, .string t, .bool b, .int .i64 e]] W fun x w' => x = .returned (.int .i64 E) ∧ Below W.heap.size W w') :
    Calls Tryz.prog 10 #[.agg #[.int .i64 k, .int .i64 m, .int .i64 s, .string t, .bool b, .int .i64 e], .int .u8 n] w fun x w' => x = .returned (.bool true) ∧ Below w.heap.size w w' := by
  have HN := Lib.hid (fun (W : World) (hb : Below w.heap.size w W) => known_any (HF.below hb) (HT.below hb) (HV.below hb)); have h' : ¬ (1000 : Int) < ((t.size : Nat) : Int) := by omega
  have hE' : (E != 0) = true := bne_iff_ne.2 hE; have HC := Lib.hid HK; clear h HF HT HV HK hE; have HB := Lib.hid (sb1 w 32 #[.int .i64 k, .int .i64 m, .int .i64 s, .string t, .bool b, .int .i64 e]); go_enter Tryz.func10, Tryz.ntmps10
  go_wp2_with fail
  refine (HN.out _ HB.out.bel).mono ?_; rintro x w1 ⟨rfl, hb⟩; have hB := HB.out.call hb; clear hb HB; have HB := Lib.hid hB; clear hB; have kv := HB.out.box (i := 0) rfl; have cv0 := kv.cell 0; have cv1 := kv.cell 1; have cv2 := kv.cell 2; have cv3 := kv.cell 3; have cv4 := kv.cell 4; have cv5 := kv.cell 5; clear kv
  go_wp2_with fail
  refine (HC.out _ HB.out.bel).mono ?_; rintro x w2 ⟨rfl, hb⟩; have hB := HB.out.call hb; clear hb HB; have HB := Lib.hid hB; clear hB; clear cv0 cv1 cv2 cv3 cv4 cv5; have hbel := HB.out.bel; clear HB; go_wp2; go_ret; exact ⟨rfl, hbel⟩
end Go.Proofs.YtngkolcpbgibcaaGreatDoor
