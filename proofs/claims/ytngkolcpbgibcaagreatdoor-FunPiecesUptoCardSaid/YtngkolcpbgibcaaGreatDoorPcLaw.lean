/- What is left of a division, plainly: its sign, how great, and that so many whole ones make the number again. No program; no condition. -/
/- A drawn region that makes a box of its own beside Args just made: what is kept. No condition. -/
/- cashbooklaw11.FunPieces, the text's runes few: its walk. Condition: what its calls tell, as premises. -/
/- The reference's reading of runes, plainly: one step of it is one of the decoder's. No condition; no model. -/
/- cashbookref7.Runes by its contract. Condition: the text is not too long. -/
/- cashbooklaw11.FunPieces returns true. Conditions: the tables are laid; the text is of a million bytes at most. -/
import Derived.Test.YtngkolcpbgibcaaGreatDoorPc0
import Derived.Test.YtngkolcpbgibcaaGreatDoorWide
import Derived.Test.YtngkolcpbgibcaaGreatDoorKd
import Derived.Test.YtngkolcpbgibcaaGreatDoorJoin
import Derived.Test.YtngkolcpbgibcaaGreatDoorV3
import Derived.Laws.BitsAllLaws
set_option linter.unusedVariables false
set_option linter.unusedSimpArgs false
namespace Go.Proofs.YtngkolcpbgibcaaGreatDoor
end Go.Proofs.YtngkolcpbgibcaaGreatDoor
namespace Go.Proofs.YtngkolcpbgibcaaGreatDoor
open Go.RowKit
def KB (W W' : World) : Prop := W.heap.size ≤ W'.heap.size ∧ ∀ g T cs, Bk W g T cs → (T = 32 → cs ≠ (vc .blank).toArray) → Bk W' g T cs
theorem KB.refl (W : World) : KB W W := ⟨Nat.le_refl _, fun _ _ _ h _ => h⟩
theorem KB.of_below {W W' : World} (h : Below W.heap.size W W') : KB W W' := ⟨h.size, fun _ _ _ hb _ => hb.below h hb.lt⟩
theorem bk_inj {W : World} {g : Nat} {T T' : TypeId} {cs cs' : Array Value} (h : Bk W g T cs) (h' : Bk W g T' cs') : T = T' ∧ cs = cs' := by
  unfold Bk at h h'; rw [h] at h'; injection h' with h'; injection h' with h1 h2; exact ⟨h2, h1⟩
theorem KB.of_store {W W' : World} {g : Nat} (h : Bk W g 32 (vc .blank).toArray) (hK : Keep (fun i => i = g) W W') : KB W W' := by
  refine ⟨hK.size, fun g' T cs hb hn => hK.bk hb fun e => ?_⟩; subst e; obtain ⟨rfl, rfl⟩ := bk_inj hb h; exact hn rfl rfl
def TwoN (m : Int) (s : Nat) (n : Int) (t : Nat) (u : Value) (W : World) : Prop := ∃ q a b, u = .slice (some ⟨q, 0, none⟩) 2 2 ∧ Bk W q 55 (ac false (some ⟨a, 0, none⟩) 1 1 ++ ac false (some ⟨b, 0, none⟩) 1 1).toArray ∧ Bk W a 32 (vc (.num m s)).toArray ∧ Bk W b 32 (vc (.num n t)).toArray
theorem TwoN.row {m n : Int} {s t : Nat} {u : Value} {W : World} (h : TwoN m s n t u W) : ∃ q, u = .slice (some ⟨q, 0, none⟩) 2 2 ∧ RowF argF W (· < W.heap.size) (some ⟨q, 0, none⟩) 2 [(false, [.num m s]), (false, [.num n t])] := by
  obtain ⟨q, a, b, rfl, hq, ha, hb⟩ := h; refine ⟨q, rfl, row_args (L := [(.agg (ac false (some ⟨a, 0, none⟩) 1 1).toArray, (false, [.num m s])), (.agg (ac false (some ⟨b, 0, none⟩) 1 1).toArray, (false, [.num n t]))]) (fun p hp => ?_) (by simpa [agCs] using hq)⟩; simp only [List.mem_cons, List.not_mem_nil, or_false] at hp
  rcases hp with rfl | rfl
  · exact argv_one ha
  · exact argv_one hb
def SA (w : World) (B : Bxs) (r : VX) (vals : List Value) (W : World) : Prop := match vals with
  | [] => BX w B W
  | [v] => ∃ g, v = .pointer (some ⟨g, 0, none⟩) ∧ BX w ((g, 32, vc .blank) :: B) W
  | v :: _ :: _ => ∃ g, v = .pointer (some ⟨g, 0, none⟩) ∧ BX w ((g, 32, vc r) :: B) W
section
variable {w W W' : World} {B : Bxs} {r : VX} {vals : List Value}
theorem BX.dropt {b : Nat × TypeId × List Value} (h : BX w (b :: B) W) : BX w B W :=
  ⟨h.bel, fun b hm => h.lo b (List.mem_cons_of_mem _ hm), fun b hm => h.bk b (List.mem_cons_of_mem _ hm), (List.nodup_cons.1 h.nd).2⟩
theorem SA.old (h : SA w B r vals W) : BX w B W := by
  match vals, h with
  | [], h => exact h
  | [_], ⟨_, _, h⟩ => exact h.dropt
  | _ :: _ :: _, ⟨_, _, h⟩ => exact h.dropt
theorem SA.call (h : SA w B r vals W) (hb : Below W.heap.size W W') : SA w B r vals W' := by
  match vals, h with
  | [], h => exact BX.call h hb
  | [_], ⟨g, e, h⟩ => exact ⟨g, e, h.call hb⟩
  | _ :: _ :: _, ⟨g, e, h⟩ => exact ⟨g, e, h.call hb⟩
end
theorem lands_stk {o : Oper} {a : Act} {w W : World} {g i : Nat} {ty : TypeId} {cs vs : List Value} {bs : Bxs} {S : World → Prop} {E : World → World → Prop} {R : Value → World → Prop} (T : RowT ty vs.length) (h1 : ∀ u ∈ vs, u.oneCell' = true) (H : BX w bs W) (hi : bs[i]? = some (g, ty, cs)) (hl : cs.length = vs.length) (x y : Operand) (ho : o.op = .store ty x y) (hx : a.eval x = .pointer (some ⟨g, 0, none⟩)) (hy : a.eval y = .agg vs.toArray)
    (h : ∀ W', BX w (bs.set i (g, ty, vs)) W' → Keep (fun j => j = g) W W' → R undef W' ∧ S W' ∧ E W W') : Lands Tryz.prog S E R W ((execOp a.eval o).run Tryz.prog W) := by
  have hb := H.get hi
  have ht : W.there g 0 vs.toArray.size := fun j hj => by
    rw [List.size_toArray] at hj; rw [Nat.zero_add, hb.cell, hb.frozen]; exact ⟨by simp; omega, rfl⟩
  have hr : (execOp a.eval o).run Tryz.prog W = .ok .skip (W.setCells g 0 vs) := by
    unfold execOp; simp only [ho, hx, hy, Instr.storeAt, Instr.sureAddr, Sem.run_bind, Sem.run_pure, Result.andThen_ok, run_storeVar_mid W g 0 ty vs.toArray ht (by rw [List.size_toArray]; exact T.size) (all_oneCell_toArray h1)]
  rw [hr]; have h2 := setCells_bk vs 0 cs W hb (by omega); have e : cs.take 0 ++ vs ++ cs.drop (0 + vs.length) = vs := by simp [List.drop_eq_nil_of_le (Nat.le_of_eq hl)]
  rw [e] at h2; exact h _ (H.turn hi h2 (setCells_keep _ _ _)) (setCells_keep _ _ _)
end Go.Proofs.YtngkolcpbgibcaaGreatDoor
namespace Go.Proofs.YtngkolcpbgibcaaGreatDoor
open Go.RowKit Go.Lib
def OneS (x : List UInt8) (u : Value) (W : World) : Prop := ∃ g, u = .agg (ac false (some ⟨g, 0, none⟩) 1 1).toArray ∧ Bk W g 32 (vc (.str x)).toArray
def TwoS (x y : List UInt8) (u : Value) (W : World) : Prop := ∃ q a b, u = .slice (some ⟨q, 0, none⟩) 2 2 ∧ Bk W q 55 (ac false (some ⟨a, 0, none⟩) 1 1 ++ ac false (some ⟨b, 0, none⟩) 1 1).toArray ∧ Bk W a 32 (vc (.str x)).toArray ∧ Bk W b 32 (vc (.str y)).toArray
theorem str_nb {x : List UInt8} : (vc (.str x)).toArray ≠ (vc .blank).toArray := by
  intro h; have := congrArg (·[0]?) h; simp [vc] at this
theorem ones_stable {x : List UInt8} : Stable KB (OneS x) := by
  rintro u W W' h ⟨g, rfl, hb⟩; exact ⟨g, rfl, h.2 _ _ _ hb fun _ => str_nb⟩
theorem twos_stable {x y : List UInt8} : Stable KB (TwoS x y) := by
  rintro u W W' h ⟨q, a, b, rfl, hq, ha, hb⟩; exact ⟨q, a, b, rfl, h.2 _ _ _ hq (fun e => by cases e), h.2 _ _ _ ha fun _ => str_nb, h.2 _ _ _ hb fun _ => str_nb⟩
theorem TwoS.row {x y : List UInt8} {u : Value} {W : World} (h : TwoS x y u W) : ∃ q, u = .slice (some ⟨q, 0, none⟩) 2 2 ∧ RowF argF W (· < W.heap.size) (some ⟨q, 0, none⟩) 2 [(false, [.str x]), (false, [.str y])] := by
  obtain ⟨q, a, b, rfl, hq, ha, hb⟩ := h; exact ⟨q, rfl, row2 hq ha hb⟩
theorem lands_bss {o : Oper} {a : Act} {W : World} {x y : List UInt8} {p q : Nat} {S : World → Prop} {E : World → World → Prop} {R : Value → World → Prop} (h1 : OneS x (a.tmps.getD p undef) W) (h2 : OneS y (a.tmps.getD q undef) W) (ho : o.op = .buildSlice 34 2 #[(0, .tmp p), (1, .tmp q)])
    (h : ∀ W' v, Below W.heap.size W W' → TwoS x y v W' → R v W' ∧ S W' ∧ E W W') : Lands Tryz.prog S E R W ((execOp a.eval o).run Tryz.prog W) := by
  obtain ⟨ga, ea, ha⟩ := h1; obtain ⟨gb, eb, hb⟩ := h2; have f1 : a.eval (.tmp p) = .agg (ac false (some ⟨ga, 0, none⟩) 1 1).toArray := ea; have f2 : a.eval (.tmp q) = .agg (ac false (some ⟨gb, 0, none⟩) 1 1).toArray := eb; have hbel := bel0 W (.cells (ac false (some ⟨ga, 0, none⟩) 1 1 ++ ac false (some ⟨gb, 0, none⟩) 1 1).toArray 55)
  have hr : (execOp a.eval o).run Tryz.prog W = .ok (.value (.slice (some ⟨W.heap.size, 0, none⟩) 2 2)) (W.alloc (.cells (ac false (some ⟨ga, 0, none⟩) 1 1 ++ ac false (some ⟨gb, 0, none⟩) 1 1).toArray 55)) := by
    unfold execOp; rw [ho]; simp only [List.map_toArray, List.map_cons, List.map_nil, f1, f2]; clear ho f1 f2 ea eb hbel ha hb; simp only [ac]; go_simp
  exact lands_v hr (h _ _ hbel ⟨_, ga, gb, rfl, Bk.new _ _ _, ha.below hbel ha.lt, hb.below hbel hb.lt⟩)
set_option maxRecDepth 20000 in
set_option maxHeartbeats 16000000 in
theorem pieces_good {w : World} (HFn : FnT w) (HTn : Tens w) (HVl : Val w) {l A1 B1 C1 : List UInt8} {p n R k : Nat} (hs : l.length ≤ 100000000) (hn : n ≤ 255) (hp : p ≤ 255) (hR : R ≤ 300) (hk : k = p % (R + 1))
    (HR : ∀ W : World, Calls Tryz.prog 28 #[.string ⟨l.toArray⟩] W fun e W' => ∃ A c, e = .returned (.tuple #[.slice A R c, .bool true]) ∧ Below W.heap.size W W')
    (hAB : A1 ++ B1 = l)
    (H1 : ∀ W : World, Below w.heap.size w W → ∀ q, RowF argF W (· < W.heap.size) (some ⟨q, 0, none⟩) 2 [(false, [.str l]), (false, [.num k 0])] → Ap W 15 (some ⟨q, 0, none⟩) 2 2 (.str A1))
    (H2 : ∀ W : World, Below w.heap.size w W → ∀ q, RowF argF W (· < W.heap.size) (some ⟨q, 0, none⟩) 2 [(false, [.str l]), (false, [.num ((R - k : Nat) : Int) 0])] → Ap W 16 (some ⟨q, 0, none⟩) 2 2 (.str B1))
    (H3 : ∀ W : World, Below w.heap.size w W → ∀ q, RowF argF W (· < W.heap.size) (some ⟨q, 0, none⟩) 3 [(false, [.str l]), (false, [.num ((k : Int) + 1) 0]), (false, [.num n 0])] → Ap W 17 (some ⟨q, 0, none⟩) 3 3 (.str C1))
    (H4 : ∀ W : World, Below w.heap.size w W → ∀ q, RowF argF W (· < W.heap.size) (some ⟨q, 0, none⟩) 2 [(false, [.str B1]), (false, [.num n 0])] → Ap W 15 (some ⟨q, 0, none⟩) 2 2 (.str C1))
    (H5 : ∀ W : World, Below w.heap.size w W → ∀ q, RowF argF W (· < W.heap.size) (some ⟨q, 0, none⟩) 2 [(false, [.str A1]), (false, [.str B1])] → Ap W 18 (some ⟨q, 0, none⟩) 2 2 (.str l))
    (H6 : ∀ W : World, Below w.heap.size w W → Calls Tryz.prog 18 #[.int .i64 6, .agg (vc (.str A1)).toArray, .agg (vc (.str B1)).toArray] W fun e W' => e = .returned (.agg (vc (.str l)).toArray) ∧ Below W.heap.size W W') :
    Calls Tryz.prog 7 #[.string ⟨l.toArray⟩, .int .u8 p, .int .u8 n] w fun e W => e = .returned (.bool true) ∧ Below w.heap.size w W := by
  have HK := Lib.hid (fun (W : World) (hb : Below w.heap.size w W) => known_any (HFn.below hb) (HTn.below hb) (HVl.below hb)); have HRR := Lib.hid HR
  have HAP : Hid ((⟨A1.toArray⟩ : ByteArray) ++ ⟨B1.toArray⟩ = ⟨l.toArray⟩) := Lib.hid (by
    subst hAB; apply ByteArray.ext
    simp [ByteArray.data_append])
  have HLN : Hid (¬ 9223372036854775807 < A1.length + B1.length) := Lib.hid (by
    have := congrArg List.length hAB; rw [List.length_append] at this
    omega)
  have HA := Lib.hid H1; have HB1 := Lib.hid H2; have HC := Lib.hid H3; have HD := Lib.hid H4; have H18 := Lib.hid H5; have HBN := Lib.hid H6; have HB := Lib.hid (BX.start w); have hR' : ¬ (300 : Int) < (R : Int) := by omega
  have hkR : k ≤ R := by subst hk; have := Nat.mod_lt p (show 0 < R + 1 by omega); omega
  have HKK := Lib.hid hk; clear hs HFn HTn HVl HR H1 H2 H3 H4 H5 H6 hAB hk; go_enter Tryz.func7, Tryz.ntmps7
  repeat' (first | go_values | go_skip | go_guarded | go_step | go_upon)
  refine (HK.out _ HB.out.bel).mono ?_; rintro e W1 ⟨rfl, hb⟩; have HB := Lib.hid (HB.out.call hb); clear hb; dsimp only
  repeat' (first | go_values | go_skip | go_guarded | go_step | go_upon)
  refine (HRR.out _).mono ?_; rintro e W1 ⟨RA, Rc, rfl, hb⟩; have HB := Lib.hid (HB.out.call hb); clear hb; dsimp only; have hnz : ¬ ((R : Int) + 1 = 0) := by omega
  repeat' (first | go_values | go_skip | go_guarded | go_step | go_upon)
  have hkk : (p : Int) % ((R : Int) + 1) = (k : Int) := by rw [HKK.out]; exact (Int.natCast_emod p (R + 1)).symm
  rw [hkk]; have hsub : (R : Int) - (k : Int) = ((R - k : Nat) : Int) := by omega
  have hk1 : k + 1 ≤ 301 := by omega
  clear hkk HKK hnz hp; refine (lS_x l).mono ?_; rintro e W1 ⟨rfl, hb⟩; have HB := Lib.hid (HB.out.call hb); clear hb; dsimp only
  repeat' (first | go_values | go_skip | go_guarded | go_step | go_upon)
  refine (fOne_any (.str l)).mono ?_; rintro e W2 ⟨ga, hg, rfl, hbk, hb⟩; have HB := Lib.hid (HB.out.one hg hbk hb); clear hg hbk hb; dsimp only
  repeat' (first | go_values | go_skip | go_guarded | go_step | go_upon)
  refine (lN_x (k : Int)).mono ?_; rintro e W1 ⟨rfl, hb⟩; have HB := Lib.hid (HB.out.call hb); clear hb; dsimp only
  repeat' (first | go_values | go_skip | go_guarded | go_step | go_upon)
  refine (fOne_any (.num k 0)).mono ?_; rintro e W2 ⟨gb, hg, rfl, hbk, hb⟩; have HB := Lib.hid (HB.out.one hg hbk hb); clear hg hbk hb; dsimp only
  repeat' (first | ((with_reducible show Oper.wp _ _ _ _ _ _); apply stop_bs; exact rfl) | go_values | go_skip | go_guarded | go_step | go_upon)
  refine Lib.hid ?_; refine bs_g (e := 55) (n := 2) HB (ac false (some ⟨ga, 0, none⟩) 1 1 ++ ac false (some ⟨gb, 0, none⟩) 1 1) (by kernel_rfl) ?_; clear HB; intro gc W _ HB; go_simp
  repeat' (first | go_values | go_skip | go_guarded | go_step | go_upon)
  refine Calls.mono (HA.out _ HB.out.bel _ (row2 (HB.out.get (i := 0) rfl) (HB.out.get (i := 2) rfl) (HB.out.get (i := 1) rfl))) ?_; rintro e W1 ⟨rfl, hb⟩; have HB := Lib.hid (HB.out.call hb); have HB := Lib.hid HB.out.drop1.drop1.drop1; clear hb; dsimp only
  repeat' (first | ((with_reducible show Oper.wp _ _ _ _ _ _); (first | (refine al_v HB rfl ?_; clear HB; intro g0 W HB; go_simp) | (refine st_v 0 HB rfl _ _ rfl rfl rfl ?_; clear HB; intro W HB; dsimp only [List.set] at HB; go_simp))) | go_values | go_skip | go_guarded | go_step | go_upon)
  refine (lS_x l).mono ?_; rintro e W1 ⟨rfl, hb⟩; have HB := Lib.hid (HB.out.call hb); clear hb; dsimp only
  repeat' (first | go_values | go_skip | go_guarded | go_step | go_upon)
  refine (fOne_any (.str l)).mono ?_; rintro e W2 ⟨gd, hg, rfl, hbk, hb⟩; have HB := Lib.hid (HB.out.one hg hbk hb); clear hg hbk hb; dsimp only
  repeat' (first | go_values | go_skip | go_guarded | go_step | go_upon)
  refine (lN_x ((R - k : Nat) : Int)).mono ?_; rintro e W1 ⟨rfl, hb⟩; have HB := Lib.hid (HB.out.call hb); clear hb; dsimp only
  repeat' (first | go_values | go_skip | go_guarded | go_step | go_upon)
  refine (fOne_any (.num ((R - k : Nat) : Int) 0)).mono ?_; rintro e W2 ⟨ge, hg, rfl, hbk, hb⟩; have HB := Lib.hid (HB.out.one hg hbk hb); clear hg hbk hb; dsimp only
  repeat' (first | ((with_reducible show Oper.wp _ _ _ _ _ _); apply stop_bs; exact rfl) | go_values | go_skip | go_guarded | go_step | go_upon)
  refine Lib.hid ?_; refine bs_g (e := 55) (n := 2) HB (ac false (some ⟨gd, 0, none⟩) 1 1 ++ ac false (some ⟨ge, 0, none⟩) 1 1) (by kernel_rfl) ?_; clear HB; intro gf W _ HB; go_simp
  repeat' (first | go_values | go_skip | go_guarded | go_step | go_upon)
  refine Calls.mono (HB1.out _ HB.out.bel _ (row2 (HB.out.get (i := 0) rfl) (HB.out.get (i := 2) rfl) (HB.out.get (i := 1) rfl))) ?_; rintro e W1 ⟨rfl, hb⟩; have HB := Lib.hid (HB.out.call hb); have HB := Lib.hid HB.out.drop1.drop1.drop1; clear hb; dsimp only
  repeat' (first | ((with_reducible show Oper.wp _ _ _ _ _ _); (first | (refine al_v HB rfl ?_; clear HB; intro g1 W HB; go_simp) | (refine st_v 0 HB rfl _ _ rfl rfl rfl ?_; clear HB; intro W HB; dsimp only [List.set] at HB; go_simp))) | go_values | go_skip | go_guarded | go_step | go_upon)
  refine (lS_x l).mono ?_; rintro e W1 ⟨rfl, hb⟩; have HB := Lib.hid (HB.out.call hb); clear hb; dsimp only
  repeat' (first | go_values | go_skip | go_guarded | go_step | go_upon)
  refine (fOne_any (.str l)).mono ?_; rintro e W2 ⟨gg, hg, rfl, hbk, hb⟩; have HB := Lib.hid (HB.out.one hg hbk hb); clear hg hbk hb; dsimp only
  repeat' (first | go_values | go_skip | go_guarded | go_step | go_upon)
  refine (lN_x ((k : Int) + 1)).mono ?_; rintro e W1 ⟨rfl, hb⟩; have HB := Lib.hid (HB.out.call hb); clear hb; dsimp only
  repeat' (first | go_values | go_skip | go_guarded | go_step | go_upon)
  refine (fOne_any (.num ((k : Int) + 1) 0)).mono ?_; rintro e W2 ⟨gh, hg, rfl, hbk, hb⟩; have HB := Lib.hid (HB.out.one hg hbk hb); clear hg hbk hb; dsimp only
  repeat' (first | go_values | go_skip | go_guarded | go_step | go_upon)
  refine (lN_x (n : Int)).mono ?_; rintro e W1 ⟨rfl, hb⟩; have HB := Lib.hid (HB.out.call hb); clear hb; dsimp only
  repeat' (first | go_values | go_skip | go_guarded | go_step | go_upon)
  refine (fOne_any (.num n 0)).mono ?_; rintro e W2 ⟨gi, hg, rfl, hbk, hb⟩; have HB := Lib.hid (HB.out.one hg hbk hb); clear hg hbk hb; dsimp only
  repeat' (first | ((with_reducible show Oper.wp _ _ _ _ _ _); apply stop_bs; exact rfl) | go_values | go_skip | go_guarded | go_step | go_upon)
  refine Lib.hid ?_; refine bs_g (e := 55) (n := 3) HB (ac false (some ⟨gg, 0, none⟩) 1 1 ++ ac false (some ⟨gh, 0, none⟩) 1 1 ++ ac false (some ⟨gi, 0, none⟩) 1 1) (by kernel_rfl) ?_; clear HB; intro gj W _ HB; go_simp
  repeat' (first | go_values | go_skip | go_guarded | go_step | go_upon)
  refine Calls.mono (HC.out _ HB.out.bel _ (row3 (HB.out.get (i := 0) rfl) (HB.out.get (i := 3) rfl) (HB.out.get (i := 2) rfl) (HB.out.get (i := 1) rfl))) ?_; rintro e W1 ⟨rfl, hb⟩; have HB := Lib.hid (HB.out.call hb); have HB := Lib.hid HB.out.drop1.drop1.drop1.drop1; clear hb; dsimp only
  repeat' (first | ((with_reducible show Oper.wp _ _ _ _ _ _); (first | (refine al_v HB rfl ?_; clear HB; intro g2 W HB; go_simp) | (refine ld_v 1 HB rfl _ rfl rfl ?_; go_simp) | (refine st_v 0 HB rfl _ _ rfl rfl rfl ?_; clear HB; intro W HB; dsimp only [List.set] at HB; go_simp))) | go_values | go_skip | go_guarded | go_step | go_upon)
  refine (fOne_any (.str B1)).mono ?_; rintro e W2 ⟨gk, hg, rfl, hbk, hb⟩; have HB := Lib.hid (HB.out.one hg hbk hb); clear hg hbk hb; dsimp only
  repeat' (first | go_values | go_skip | go_guarded | go_step | go_upon)
  refine (lN_x (n : Int)).mono ?_; rintro e W1 ⟨rfl, hb⟩; have HB := Lib.hid (HB.out.call hb); clear hb; dsimp only
  repeat' (first | go_values | go_skip | go_guarded | go_step | go_upon)
  refine (fOne_any (.num n 0)).mono ?_; rintro e W2 ⟨gl, hg, rfl, hbk, hb⟩; have HB := Lib.hid (HB.out.one hg hbk hb); clear hg hbk hb; dsimp only
  repeat' (first | ((with_reducible show Oper.wp _ _ _ _ _ _); apply stop_bs; exact rfl) | go_values | go_skip | go_guarded | go_step | go_upon)
  refine Lib.hid ?_; refine bs_g (e := 55) (n := 2) HB (ac false (some ⟨gk, 0, none⟩) 1 1 ++ ac false (some ⟨gl, 0, none⟩) 1 1) (by kernel_rfl) ?_; clear HB; intro gm W _ HB; go_simp
  repeat' (first | go_values | go_skip | go_guarded | go_step | go_upon)
  refine Calls.mono (HD.out _ HB.out.bel _ (row2 (HB.out.get (i := 0) rfl) (HB.out.get (i := 2) rfl) (HB.out.get (i := 1) rfl))) ?_; rintro e W1 ⟨rfl, hb⟩; have HB := Lib.hid (HB.out.call hb); have HB := Lib.hid HB.out.drop1.drop1.drop1; clear hb; dsimp only
  repeat' (first | ((with_reducible show Oper.wp _ _ _ _ _ _); (first | (refine al_v HB rfl ?_; clear HB; intro g3 W HB; go_simp) | (refine st_v 0 HB rfl _ _ rfl rfl rfl ?_; clear HB; intro W HB; dsimp only [List.set] at HB; go_simp))) | go_values | go_skip | go_guarded | go_step | go_upon)
  clear HK HRR HA HB1 HC HD
  refine wp_region_phases (S := (SA w [(g3, 32, vc (.str C1)), (g2, 32, vc (.str C1)), (g1, 32, vc (.str B1)), (g0, 32, vc (.str A1))] (.str l))) (E := KB) [6, 7] [(0, Is (.string ⟨l.toArray⟩)), (10, Is (.pointer (some ⟨g0, 0, none⟩))), (11, Is (.pointer (some ⟨g1, 0, none⟩))), (12, Is (.pointer (some ⟨g2, 0, none⟩))), (13, Is (.pointer (some ⟨g3, 0, none⟩)))] [(75, Is (.agg (vc (.str A1)).toArray)), (76, OneS A1), (77, Is (.agg (vc (.str B1)).toArray)), (78, OneS B1), (79, TwoS A1 B1), (80, Is (.agg (vc (.str l)).toArray))]
    [.op [10] none, .op [75] none, .op [11] none, .op [77] none, .op [76, 78] none, .op [79] none, .phase 0 [] [], .phase 1 [80] [(0, 14)]] (by as_aux_lemma => kernel_rfl) ?_ ?_ ?_ ?_ ?_ ⟨stable_is _ _, stable_is _ _, stable_is _ _, stable_is _ _, stable_is _ _, stable_is _ _, ones_stable, stable_is _ _, ones_stable, twos_stable, stable_is _ _, trivial⟩ ?_ HB.out.drew ?_ ?_
  · as_aux_lemma => kernel_rfl
  · as_aux_lemma => kernel_rfl
  · as_aux_lemma => kernel_rfl
  · as_aux_lemma => kernel_rfl
  · as_aux_lemma => kernel_rfl
  · exact ⟨rfl, rfl, rfl, rfl, rfl, trivial⟩
  · refine ⟨?_, ?_, ?_, ?_, ?_, ?_, ?_, ?_, trivial⟩
    · as_aux_lemma =>
        intro vals a W hS hL; have e10 : a.tmps.getD 10 undef = .pointer (some ⟨g0, 0, none⟩) := hL.1; clear hL; refine lands_v (run_ldg (show RowT 32 (vc (.str A1)).length from rtVal) (hS.old.get (i := 3) rfl) (.tmp 10) rfl e10) ?_; exact ⟨⟨fun d hd => by injection hd with hd; subst hd; rfl, fun h => by cases h⟩, hS, KB.refl _⟩
    · as_aux_lemma =>
        intro vals a W hS hL; have e75 : a.tmps.getD 75 undef = .agg (vc (.str A1)).toArray := hL.1; clear hL; go_simp; refine (fOne_any (w := W) (.str A1)).mono ?_; rintro e W2 ⟨g, hg, rfl, hbk, hb⟩; exact ⟨_, rfl, ⟨fun d hd => by injection hd with hd; subst hd; exact ⟨g, rfl, hbk⟩, fun h => by cases h⟩, hS.call hb, KB.of_below hb⟩
    · as_aux_lemma =>
        intro vals a W hS hL; have e11 : a.tmps.getD 11 undef = .pointer (some ⟨g1, 0, none⟩) := hL.1; clear hL; refine lands_v (run_ldg (show RowT 32 (vc (.str B1)).length from rtVal) (hS.old.get (i := 2) rfl) (.tmp 11) rfl e11) ?_; exact ⟨⟨fun d hd => by injection hd with hd; subst hd; rfl, fun h => by cases h⟩, hS, KB.refl _⟩
    · as_aux_lemma =>
        intro vals a W hS hL; have e77 : a.tmps.getD 77 undef = .agg (vc (.str B1)).toArray := hL.1; clear hL; go_simp; refine (fOne_any (w := W) (.str B1)).mono ?_; rintro e W2 ⟨g, hg, rfl, hbk, hb⟩; exact ⟨_, rfl, ⟨fun d hd => by injection hd with hd; subst hd; exact ⟨g, rfl, hbk⟩, fun h => by cases h⟩, hS.call hb, KB.of_below hb⟩
    · as_aux_lemma =>
        intro vals a W hS hL; have e76 := hL.1; have e78 := hL.2.1; clear hL; refine lands_bss e76 e78 rfl fun W2 v2 hb ht => ?_; exact ⟨⟨fun d hd => by injection hd with hd; subst hd; exact ht, fun h => by cases h⟩, hS.call hb, KB.of_below hb⟩
    · as_aux_lemma =>
        intro vals a W hS hL; have e79 := hL.1; clear hL; obtain ⟨q, hq, hrow⟩ := TwoS.row e79; go_simp; refine Calls.mono (H18.out W hS.old.bel q hrow) ?_; rintro e W2 ⟨rfl, hb⟩; exact ⟨_, rfl, ⟨fun d hd => by injection hd with hd; subst hd; rfl, fun h => by cases h⟩, hS.call hb, KB.of_below hb⟩
    · as_aux_lemma =>
        intro a W vals hv hS hL hp; clear hL
        match vals, hv, hS with
        | [], _, hS =>
          have hm := BX.made (show BX w [(g3, 32, vc (.str C1)), (g2, 32, vc (.str C1)), (g1, 32, vc (.str B1)), (g0, 32, vc (.str A1))] W from hS) 32 (vc .blank); simp only [vc] at hm; go_simp; exact ⟨⟨_, rfl, hm⟩, trivial, KB.of_below (bel0 _ _)⟩
    · as_aux_lemma =>
        intro a W vals hv hS hL hp; have e80 : a.tmps.getD 80 undef = .agg (vc (.str l)).toArray := hL.1; clear hL
        match vals, hv, hS, hp with
        | [u], _, hS, hp =>
          obtain ⟨g, rfl, hB⟩ := hS; have e14 := (Option.some.inj (hp.1 (by simp))).symm; refine lands_stk (vs := vc (.str l)) (show RowT 32 (vc (.str l)).length from rtVal) (vc_one _) (i := 0) hB rfl rfl (.tmp 14) (.tmp 80) rfl e14 e80 fun W2 h2 hK => ?_; exact ⟨⟨g, rfl, h2⟩, trivial, KB.of_store (hB.get (i := 0) rfl) hK⟩
  · intro a W vals hd hsz hT hF hv hP hS
    obtain ⟨v0, v1, rfl⟩ : ∃ v0 v1, vals = [v0, v1] := by
      match vals, hv with
      | [x0, x1], _ => exact ⟨x0, x1, rfl⟩
    obtain ⟨g4, rfl, hB⟩ := hS; have HB : Hid (BX w [(g4, 32, vc (.str l)), (g3, 32, vc (.str C1)), (g2, 32, vc (.str C1)), (g1, 32, vc (.str B1)), (g0, 32, vc (.str A1))] W) := Lib.hid hB; have e0 : a.tmps.getD 0 undef = .string ⟨l.toArray⟩ := hT 0 (by simp); have e10 : a.tmps.getD 10 undef = .pointer (some ⟨g0, 0, none⟩) := hT 10 (by simp); have e11 : a.tmps.getD 11 undef = .pointer (some ⟨g1, 0, none⟩) := hT 11 (by simp); have e12 : a.tmps.getD 12 undef = .pointer (some ⟨g2, 0, none⟩) := hT 12 (by simp); have e13 : a.tmps.getD 13 undef = .pointer (some ⟨g3, 0, none⟩) := hT 13 (by simp); have e14 : a.tmps.getD 14 undef = .pointer (some ⟨g4, 0, none⟩) := (Option.some.inj (show some (Value.pointer (some ⟨g4, 0, none⟩)) = some (a.tmps.getD 14 undef) from hP 0 6 _ 14 rfl (by simp) rfl rfl)).symm; clear hT hF hP hB; rw [act_lit 117 a hd hsz]; simp only [List.range, List.range.loop, List.map, e0, e10, e11, e12, e13, e14]; clear e0 e10 e11 e12 e13 e14 hsz hd; generalize a.tmps.getD 1 undef = y1; generalize a.tmps.getD 2 undef = y2; generalize a.tmps.getD 3 undef = y3; generalize a.tmps.getD 4 undef = y4; generalize a.tmps.getD 5 undef = y5; generalize a.tmps.getD 6 undef = y6; generalize a.tmps.getD 7 undef = y7; generalize a.tmps.getD 8 undef = y8; generalize a.tmps.getD 9 undef = y9; generalize a.tmps.getD 15 undef = y15; generalize a.tmps.getD 16 undef = y16; generalize a.tmps.getD 17 undef = y17; generalize a.tmps.getD 18 undef = y18; generalize a.tmps.getD 19 undef = y19; generalize a.tmps.getD 20 undef = y20; generalize a.tmps.getD 21 undef = y21; generalize a.tmps.getD 22 undef = y22; generalize a.tmps.getD 23 undef = y23; generalize a.tmps.getD 24 undef = y24; generalize a.tmps.getD 25 undef = y25; generalize a.tmps.getD 26 undef = y26; generalize a.tmps.getD 27 undef = y27; generalize a.tmps.getD 28 undef = y28; generalize a.tmps.getD 29 undef = y29; generalize a.tmps.getD 30 undef = y30; generalize a.tmps.getD 31 undef = y31; generalize a.tmps.getD 32 undef = y32; generalize a.tmps.getD 33 undef = y33; generalize a.tmps.getD 34 undef = y34; generalize a.tmps.getD 35 undef = y35; generalize a.tmps.getD 36 undef = y36; generalize a.tmps.getD 37 undef = y37; generalize a.tmps.getD 38 undef = y38; generalize a.tmps.getD 39 undef = y39; generalize a.tmps.getD 40 undef = y40; generalize a.tmps.getD 41 undef = y41; generalize a.tmps.getD 42 undef = y42; generalize a.tmps.getD 43 undef = y43; generalize a.tmps.getD 44 undef = y44; generalize a.tmps.getD 45 undef = y45; generalize a.tmps.getD 46 undef = y46; generalize a.tmps.getD 47 undef = y47; generalize a.tmps.getD 48 undef = y48; generalize a.tmps.getD 49 undef = y49; generalize a.tmps.getD 50 undef = y50; generalize a.tmps.getD 51 undef = y51; generalize a.tmps.getD 52 undef = y52; generalize a.tmps.getD 53 undef = y53; generalize a.tmps.getD 54 undef = y54; generalize a.tmps.getD 55 undef = y55; generalize a.tmps.getD 56 undef = y56; generalize a.tmps.getD 57 undef = y57; generalize a.tmps.getD 58 undef = y58; generalize a.tmps.getD 59 undef = y59; generalize a.tmps.getD 60 undef = y60; generalize a.tmps.getD 61 undef = y61; generalize a.tmps.getD 62 undef = y62; generalize a.tmps.getD 63 undef = y63; generalize a.tmps.getD 64 undef = y64; generalize a.tmps.getD 65 undef = y65; generalize a.tmps.getD 66 undef = y66; generalize a.tmps.getD 67 undef = y67; generalize a.tmps.getD 68 undef = y68; generalize a.tmps.getD 69 undef = y69; generalize a.tmps.getD 70 undef = y70; generalize a.tmps.getD 71 undef = y71; generalize a.tmps.getD 72 undef = y72; generalize a.tmps.getD 73 undef = y73; generalize a.tmps.getD 74 undef = y74; generalize a.tmps.getD 75 undef = y75; generalize a.tmps.getD 76 undef = y76; generalize a.tmps.getD 77 undef = y77; generalize a.tmps.getD 78 undef = y78; generalize a.tmps.getD 79 undef = y79; generalize a.tmps.getD 80 undef = y80; generalize a.tmps.getD 81 undef = y81; generalize a.tmps.getD 82 undef = y82; generalize a.tmps.getD 83 undef = y83; generalize a.tmps.getD 84 undef = y84; generalize a.tmps.getD 85 undef = y85; generalize a.tmps.getD 86 undef = y86; generalize a.tmps.getD 87 undef = y87; generalize a.tmps.getD 88 undef = y88; generalize a.tmps.getD 89 undef = y89; generalize a.tmps.getD 90 undef = y90; generalize a.tmps.getD 91 undef = y91; generalize a.tmps.getD 92 undef = y92; generalize a.tmps.getD 93 undef = y93; generalize a.tmps.getD 94 undef = y94; generalize a.tmps.getD 95 undef = y95; generalize a.tmps.getD 96 undef = y96; generalize a.tmps.getD 97 undef = y97; generalize a.tmps.getD 98 undef = y98; generalize a.tmps.getD 99 undef = y99; generalize a.tmps.getD 100 undef = y100; generalize a.tmps.getD 101 undef = y101; generalize a.tmps.getD 102 undef = y102; generalize a.tmps.getD 103 undef = y103; generalize a.tmps.getD 104 undef = y104; generalize a.tmps.getD 105 undef = y105; generalize a.tmps.getD 106 undef = y106; generalize a.tmps.getD 107 undef = y107; generalize a.tmps.getD 108 undef = y108; generalize a.tmps.getD 109 undef = y109; generalize a.tmps.getD 110 undef = y110; generalize a.tmps.getD 111 undef = y111; generalize a.tmps.getD 112 undef = y112; generalize a.tmps.getD 113 undef = y113; generalize a.tmps.getD 114 undef = y114; generalize a.tmps.getD 115 undef = y115; generalize a.tmps.getD 116 undef = y116
    repeat' (first | go_values | go_skip | go_guarded | go_step | go_upon)
    refine wp_region_phases (S := (fun _ W => BX w [(g4, 32, vc (.str l)), (g3, 32, vc (.str C1)), (g2, 32, vc (.str C1)), (g1, 32, vc (.str B1)), (g0, 32, vc (.str A1))] W)) (E := (fun W W' => Below W.heap.size W W')) [] [(0, Is (.string ⟨l.toArray⟩)), (10, Is (.pointer (some ⟨g0, 0, none⟩))), (11, Is (.pointer (some ⟨g1, 0, none⟩))), (12, Is (.pointer (some ⟨g2, 0, none⟩))), (13, Is (.pointer (some ⟨g3, 0, none⟩))), (14, Is (.pointer (some ⟨g4, 0, none⟩)))] [(81, Is (.pointer (some ⟨g0, 0, none⟩))), (82, Is (.int .i64 2)), (83, Is (.bool true)), (84, Is (.bool true)), (85, Is (.pointer (some ⟨g1, 0, none⟩))), (86, Is (.int .i64 2)), (87, Is (.bool true)), (88, Is (.bool true)), (89, Is (.bool true)), (90, Is (.pointer (some ⟨g0, 3, none⟩))), (91, Is (.string ⟨A1.toArray⟩)), (92, Is (.pointer (some ⟨g1, 3, none⟩))), (93, Is (.string ⟨B1.toArray⟩)), (94, Is (.string ⟨l.toArray⟩)), (95, Is (.string ⟨l.toArray⟩)), (96, Is (.bool true)), (97, Is (.bool true)), (98, Is (.bool true)), (99, Is (.agg (vc (.str l)).toArray)), (100, Is (.string ⟨l.toArray⟩)), (101, Is (.agg (vc (.str l)).toArray)), (102, Is (.bool true)), (103, Is (.bool true)), (104, Is (.bool true)), (105, Is (.agg (vc (.str C1)).toArray)), (106, Is (.agg (vc (.str C1)).toArray)), (107, Is (.bool true)), (108, Is (.bool true)), (109, Is (.bool true)), (110, Is (.agg (vc (.str A1)).toArray)), (111, Is (.agg (vc (.str B1)).toArray)), (112, Is (.agg (vc (.str l)).toArray)), (113, Is (.string ⟨l.toArray⟩)), (114, Is (.agg (vc (.str l)).toArray)), (115, Is (.bool true)), (116, Is (.bool true)), (6, Is (.bool true))]
      [.op [10] none, .op [81] none, .op [82] none, .op [83] none, .op [11, 84] (some (84, true)), .op [85, 84] (some (84, true)), .op [86, 84] (some (84, true)), .op [84, 87] none, .op [88] none, .op [10, 89] (some (89, true)), .op [90, 89] (some (89, true)), .op [11, 89] (some (89, true)), .op [92, 89] (some (89, true)), .op [91, 93, 89] (some (89, true)), .op [0, 89] (some (89, true)), .op [94, 95, 89] (some (89, true)), .op [89, 96] none, .op [97] none, .op [14, 98] (some (98, true)), .op [0, 98] (some (98, true)), .op [100, 98] (some (98, true)), .op [99, 101, 98] (some (98, true)), .op [98, 102] none, .op [103] none, .op [12, 104] (some (104, true)), .op [13, 104] (some (104, true)), .op [105, 106, 104] (some (104, true)), .op [104, 107] none, .op [108] none, .op [10, 109] (some (109, true)), .op [11, 109] (some (109, true)), .op [110, 111, 109] (some (109, true)), .op [0, 109] (some (109, true)), .op [113, 109] (some (109, true)), .op [112, 114, 109] (some (109, true)), .op [109, 115] none, .op [116] none] (by as_aux_lemma => kernel_rfl) ?_ ?_ ?_ ?_ ?_ ⟨stable_is _ _, stable_is _ _, stable_is _ _, stable_is _ _, stable_is _ _, stable_is _ _, stable_is _ _, stable_is _ _, stable_is _ _, stable_is _ _, stable_is _ _, stable_is _ _, stable_is _ _, stable_is _ _, stable_is _ _, stable_is _ _, stable_is _ _, stable_is _ _, stable_is _ _, stable_is _ _, stable_is _ _, stable_is _ _, stable_is _ _, stable_is _ _, stable_is _ _, stable_is _ _, stable_is _ _, stable_is _ _, stable_is _ _, stable_is _ _, stable_is _ _, stable_is _ _, stable_is _ _, stable_is _ _, stable_is _ _, stable_is _ _, stable_is _ _, stable_is _ _, stable_is _ _, stable_is _ _, stable_is _ _, stable_is _ _, stable_is _ _, trivial⟩ ?_ HB.out.drew ?_ ?_
    · as_aux_lemma => kernel_rfl
    · as_aux_lemma => kernel_rfl
    · as_aux_lemma => kernel_rfl
    · as_aux_lemma => kernel_rfl
    · as_aux_lemma => kernel_rfl
    · exact ⟨rfl, rfl, rfl, rfl, rfl, rfl, trivial⟩
    · refine ⟨?_, ?_, ?_, ?_, ?_, ?_, ?_, ?_, ?_, ?_, ?_, ?_, ?_, ?_, ?_, ?_, ?_, ?_, ?_, ?_, ?_, ?_, ?_, ?_, ?_, ?_, ?_, ?_, ?_, ?_, ?_, ?_, ?_, ?_, ?_, ?_, ?_, trivial⟩
      · as_aux_lemma =>
          intro vals a W hS hL; have e10 : a.tmps.getD 10 undef = .pointer (some ⟨g0, 0, none⟩) := hL.1; clear hL; go_simp; exact ⟨⟨fun d hd => by injection hd with hd; subst hd; rfl, fun h => by cases h⟩, hS, (Below.refl _ _)⟩
      · as_aux_lemma =>
          intro vals a W hS hL; have e81 : a.tmps.getD 81 undef = .pointer (some ⟨g0, 0, none⟩) := hL.1; clear hL; have f : W.cell? ⟨g0, 0, none⟩ = some (.int .i64 2) := hS.cell (i := 4) rfl 0; go_simp; exact ⟨⟨fun d hd => by injection hd with hd; subst hd; rfl, fun h => by cases h⟩, hS, (Below.refl _ _)⟩
      · as_aux_lemma =>
          intro vals a W hS hL; have e82 : a.tmps.getD 82 undef = .int .i64 2 := hL.1; clear hL; go_simp; exact ⟨⟨fun d hd => by injection hd with hd; subst hd; rfl, fun h => by cases h⟩, hS, (Below.refl _ _)⟩
      · as_aux_lemma =>
          intro vals a W hS hL; have e83 : a.tmps.getD 83 undef = .bool true := hL.1; clear hL; go_simp; exact ⟨⟨fun d hd => by injection hd with hd; subst hd; rfl, fun h => by cases h⟩, hS, (Below.refl _ _)⟩
      · as_aux_lemma =>
          intro vals a W hS hL; have e11 : a.tmps.getD 11 undef = .pointer (some ⟨g1, 0, none⟩) := hL.1; have e84 : a.tmps.getD 84 undef = .bool true := hL.2.1; clear hL; refine ⟨true, e84, ?_⟩; rw [if_pos rfl]; go_simp; exact ⟨⟨fun d hd => by injection hd with hd; subst hd; rfl, fun h => by cases h⟩, hS, (Below.refl _ _)⟩
      · as_aux_lemma =>
          intro vals a W hS hL; have e85 : a.tmps.getD 85 undef = .pointer (some ⟨g1, 0, none⟩) := hL.1; have e84 : a.tmps.getD 84 undef = .bool true := hL.2.1; clear hL; refine ⟨true, e84, ?_⟩; rw [if_pos rfl]; have f : W.cell? ⟨g1, 0, none⟩ = some (.int .i64 2) := hS.cell (i := 3) rfl 0; go_simp; exact ⟨⟨fun d hd => by injection hd with hd; subst hd; rfl, fun h => by cases h⟩, hS, (Below.refl _ _)⟩
      · as_aux_lemma =>
          intro vals a W hS hL; have e86 : a.tmps.getD 86 undef = .int .i64 2 := hL.1; have e84 : a.tmps.getD 84 undef = .bool true := hL.2.1; clear hL; refine ⟨true, e84, ?_⟩; rw [if_pos rfl]; go_simp; exact ⟨⟨fun d hd => by injection hd with hd; subst hd; rfl, fun h => by cases h⟩, hS, (Below.refl _ _)⟩
      · as_aux_lemma =>
          intro vals a W hS hL; have e84 : a.tmps.getD 84 undef = .bool true := hL.1; have e87 : a.tmps.getD 87 undef = .bool true := hL.2.1; clear hL; go_simp; exact ⟨⟨fun d hd => by injection hd with hd; subst hd; rfl, fun h => by cases h⟩, hS, (Below.refl _ _)⟩
      · as_aux_lemma =>
          intro vals a W hS hL; have e88 : a.tmps.getD 88 undef = .bool true := hL.1; clear hL; go_simp; exact ⟨⟨fun d hd => by injection hd with hd; subst hd; rfl, fun h => by cases h⟩, hS, (Below.refl _ _)⟩
      · as_aux_lemma =>
          intro vals a W hS hL; have e10 : a.tmps.getD 10 undef = .pointer (some ⟨g0, 0, none⟩) := hL.1; have e89 : a.tmps.getD 89 undef = .bool true := hL.2.1; clear hL; refine ⟨true, e89, ?_⟩; rw [if_pos rfl]; go_simp; exact ⟨⟨fun d hd => by injection hd with hd; subst hd; rfl, fun h => by cases h⟩, hS, (Below.refl _ _)⟩
      · as_aux_lemma =>
          intro vals a W hS hL; have e90 : a.tmps.getD 90 undef = .pointer (some ⟨g0, 3, none⟩) := hL.1; have e89 : a.tmps.getD 89 undef = .bool true := hL.2.1; clear hL; refine ⟨true, e89, ?_⟩; rw [if_pos rfl]; have f : W.cell? ⟨g0, 3, none⟩ = some (.string ⟨A1.toArray⟩) := hS.cell (i := 4) rfl 3; go_simp; exact ⟨⟨fun d hd => by injection hd with hd; subst hd; rfl, fun h => by cases h⟩, hS, (Below.refl _ _)⟩
      · as_aux_lemma =>
          intro vals a W hS hL; have e11 : a.tmps.getD 11 undef = .pointer (some ⟨g1, 0, none⟩) := hL.1; have e89 : a.tmps.getD 89 undef = .bool true := hL.2.1; clear hL; refine ⟨true, e89, ?_⟩; rw [if_pos rfl]; go_simp; exact ⟨⟨fun d hd => by injection hd with hd; subst hd; rfl, fun h => by cases h⟩, hS, (Below.refl _ _)⟩
      · as_aux_lemma =>
          intro vals a W hS hL; have e92 : a.tmps.getD 92 undef = .pointer (some ⟨g1, 3, none⟩) := hL.1; have e89 : a.tmps.getD 89 undef = .bool true := hL.2.1; clear hL; refine ⟨true, e89, ?_⟩; rw [if_pos rfl]; have f : W.cell? ⟨g1, 3, none⟩ = some (.string ⟨B1.toArray⟩) := hS.cell (i := 3) rfl 3; go_simp; exact ⟨⟨fun d hd => by injection hd with hd; subst hd; rfl, fun h => by cases h⟩, hS, (Below.refl _ _)⟩
      · as_aux_lemma =>
          intro vals a W hS hL; have e91 : a.tmps.getD 91 undef = .string ⟨A1.toArray⟩ := hL.1; have e93 : a.tmps.getD 93 undef = .string ⟨B1.toArray⟩ := hL.2.1; have e89 : a.tmps.getD 89 undef = .bool true := hL.2.2.1; clear hL; refine ⟨true, e89, ?_⟩; rw [if_pos rfl]; have q := HAP.out; have q2 := HLN.out; go_simp; exact ⟨⟨fun d hd => by injection hd with hd; subst hd; rfl, fun h => by cases h⟩, hS, (Below.refl _ _)⟩
      · as_aux_lemma =>
          intro vals a W hS hL; have e0 : a.tmps.getD 0 undef = .string ⟨l.toArray⟩ := hL.1; have e89 : a.tmps.getD 89 undef = .bool true := hL.2.1; clear hL; refine ⟨true, e89, ?_⟩; rw [if_pos rfl]; go_simp; exact ⟨⟨fun d hd => by injection hd with hd; subst hd; rfl, fun h => by cases h⟩, hS, (Below.refl _ _)⟩
      · as_aux_lemma =>
          intro vals a W hS hL; have e94 : a.tmps.getD 94 undef = .string ⟨l.toArray⟩ := hL.1; have e95 : a.tmps.getD 95 undef = .string ⟨l.toArray⟩ := hL.2.1; have e89 : a.tmps.getD 89 undef = .bool true := hL.2.2.1; clear hL; refine ⟨true, e89, ?_⟩; rw [if_pos rfl]; go_simp; exact ⟨⟨fun d hd => by injection hd with hd; subst hd; rfl, fun h => by cases h⟩, hS, (Below.refl _ _)⟩
      · as_aux_lemma =>
          intro vals a W hS hL; have e89 : a.tmps.getD 89 undef = .bool true := hL.1; have e96 : a.tmps.getD 96 undef = .bool true := hL.2.1; clear hL; go_simp; exact ⟨⟨fun d hd => by injection hd with hd; subst hd; rfl, fun h => by cases h⟩, hS, (Below.refl _ _)⟩
      · as_aux_lemma =>
          intro vals a W hS hL; have e97 : a.tmps.getD 97 undef = .bool true := hL.1; clear hL; go_simp; exact ⟨⟨fun d hd => by injection hd with hd; subst hd; rfl, fun h => by cases h⟩, hS, (Below.refl _ _)⟩
      · as_aux_lemma =>
          intro vals a W hS hL; have e14 : a.tmps.getD 14 undef = .pointer (some ⟨g4, 0, none⟩) := hL.1; have e98 : a.tmps.getD 98 undef = .bool true := hL.2.1; clear hL; refine ⟨true, e98, ?_⟩; rw [if_pos rfl]; refine lands_v (run_ldg (show RowT 32 (vc (.str l)).length from rtVal) (hS.get (i := 0) rfl) (.tmp 14) rfl e14) ?_; exact ⟨⟨fun d hd => by injection hd with hd; subst hd; rfl, fun h => by cases h⟩, hS, Below.refl _ _⟩
      · as_aux_lemma =>
          intro vals a W hS hL; have e0 : a.tmps.getD 0 undef = .string ⟨l.toArray⟩ := hL.1; have e98 : a.tmps.getD 98 undef = .bool true := hL.2.1; clear hL; refine ⟨true, e98, ?_⟩; rw [if_pos rfl]; go_simp; exact ⟨⟨fun d hd => by injection hd with hd; subst hd; rfl, fun h => by cases h⟩, hS, (Below.refl _ _)⟩
      · as_aux_lemma =>
          intro vals a W hS hL; have e100 : a.tmps.getD 100 undef = .string ⟨l.toArray⟩ := hL.1; have e98 : a.tmps.getD 98 undef = .bool true := hL.2.1; clear hL; refine ⟨true, e98, ?_⟩; rw [if_pos rfl]; go_simp; refine (lS_x (w := W) l).mono ?_; rintro e W2 ⟨rfl, hb⟩; exact ⟨_, rfl, ⟨fun d hd => by injection hd with hd; subst hd; rfl, fun h => by cases h⟩, hS.call hb, hb⟩
      · as_aux_lemma =>
          intro vals a W hS hL; have e99 : a.tmps.getD 99 undef = .agg (vc (.str l)).toArray := hL.1; have e101 : a.tmps.getD 101 undef = .agg (vc (.str l)).toArray := hL.2.1; have e98 : a.tmps.getD 98 undef = .bool true := hL.2.2.1; clear hL; refine ⟨true, e98, ?_⟩; rw [if_pos rfl]; refine lands_v (run_eq32 (v := .str l) rfl e99 e101) ?_; exact ⟨⟨fun d hd => by injection hd with hd; subst hd; rfl, fun h => by cases h⟩, hS, Below.refl _ _⟩
      · as_aux_lemma =>
          intro vals a W hS hL; have e98 : a.tmps.getD 98 undef = .bool true := hL.1; have e102 : a.tmps.getD 102 undef = .bool true := hL.2.1; clear hL; go_simp; exact ⟨⟨fun d hd => by injection hd with hd; subst hd; rfl, fun h => by cases h⟩, hS, (Below.refl _ _)⟩
      · as_aux_lemma =>
          intro vals a W hS hL; have e103 : a.tmps.getD 103 undef = .bool true := hL.1; clear hL; go_simp; exact ⟨⟨fun d hd => by injection hd with hd; subst hd; rfl, fun h => by cases h⟩, hS, (Below.refl _ _)⟩
      · as_aux_lemma =>
          intro vals a W hS hL; have e12 : a.tmps.getD 12 undef = .pointer (some ⟨g2, 0, none⟩) := hL.1; have e104 : a.tmps.getD 104 undef = .bool true := hL.2.1; clear hL; refine ⟨true, e104, ?_⟩; rw [if_pos rfl]; refine lands_v (run_ldg (show RowT 32 (vc (.str C1)).length from rtVal) (hS.get (i := 2) rfl) (.tmp 12) rfl e12) ?_; exact ⟨⟨fun d hd => by injection hd with hd; subst hd; rfl, fun h => by cases h⟩, hS, Below.refl _ _⟩
      · as_aux_lemma =>
          intro vals a W hS hL; have e13 : a.tmps.getD 13 undef = .pointer (some ⟨g3, 0, none⟩) := hL.1; have e104 : a.tmps.getD 104 undef = .bool true := hL.2.1; clear hL; refine ⟨true, e104, ?_⟩; rw [if_pos rfl]; refine lands_v (run_ldg (show RowT 32 (vc (.str C1)).length from rtVal) (hS.get (i := 1) rfl) (.tmp 13) rfl e13) ?_; exact ⟨⟨fun d hd => by injection hd with hd; subst hd; rfl, fun h => by cases h⟩, hS, Below.refl _ _⟩
      · as_aux_lemma =>
          intro vals a W hS hL; have e105 : a.tmps.getD 105 undef = .agg (vc (.str C1)).toArray := hL.1; have e106 : a.tmps.getD 106 undef = .agg (vc (.str C1)).toArray := hL.2.1; have e104 : a.tmps.getD 104 undef = .bool true := hL.2.2.1; clear hL; refine ⟨true, e104, ?_⟩; rw [if_pos rfl]; refine lands_v (run_eq32 (v := .str C1) rfl e105 e106) ?_; exact ⟨⟨fun d hd => by injection hd with hd; subst hd; rfl, fun h => by cases h⟩, hS, Below.refl _ _⟩
      · as_aux_lemma =>
          intro vals a W hS hL; have e104 : a.tmps.getD 104 undef = .bool true := hL.1; have e107 : a.tmps.getD 107 undef = .bool true := hL.2.1; clear hL; go_simp; exact ⟨⟨fun d hd => by injection hd with hd; subst hd; rfl, fun h => by cases h⟩, hS, (Below.refl _ _)⟩
      · as_aux_lemma =>
          intro vals a W hS hL; have e108 : a.tmps.getD 108 undef = .bool true := hL.1; clear hL; go_simp; exact ⟨⟨fun d hd => by injection hd with hd; subst hd; rfl, fun h => by cases h⟩, hS, (Below.refl _ _)⟩
      · as_aux_lemma =>
          intro vals a W hS hL; have e10 : a.tmps.getD 10 undef = .pointer (some ⟨g0, 0, none⟩) := hL.1; have e109 : a.tmps.getD 109 undef = .bool true := hL.2.1; clear hL; refine ⟨true, e109, ?_⟩; rw [if_pos rfl]; refine lands_v (run_ldg (show RowT 32 (vc (.str A1)).length from rtVal) (hS.get (i := 4) rfl) (.tmp 10) rfl e10) ?_; exact ⟨⟨fun d hd => by injection hd with hd; subst hd; rfl, fun h => by cases h⟩, hS, Below.refl _ _⟩
      · as_aux_lemma =>
          intro vals a W hS hL; have e11 : a.tmps.getD 11 undef = .pointer (some ⟨g1, 0, none⟩) := hL.1; have e109 : a.tmps.getD 109 undef = .bool true := hL.2.1; clear hL; refine ⟨true, e109, ?_⟩; rw [if_pos rfl]; refine lands_v (run_ldg (show RowT 32 (vc (.str B1)).length from rtVal) (hS.get (i := 3) rfl) (.tmp 11) rfl e11) ?_; exact ⟨⟨fun d hd => by injection hd with hd; subst hd; rfl, fun h => by cases h⟩, hS, Below.refl _ _⟩
      · as_aux_lemma =>
          intro vals a W hS hL; have e110 : a.tmps.getD 110 undef = .agg (vc (.str A1)).toArray := hL.1; have e111 : a.tmps.getD 111 undef = .agg (vc (.str B1)).toArray := hL.2.1; have e109 : a.tmps.getD 109 undef = .bool true := hL.2.2.1; clear hL; refine ⟨true, e109, ?_⟩; rw [if_pos rfl]; go_simp; refine Calls.mono (HBN.out W hS.bel) ?_; rintro e W2 ⟨rfl, hb⟩; exact ⟨_, rfl, ⟨fun d hd => by injection hd with hd; subst hd; rfl, fun h => by cases h⟩, hS.call hb, hb⟩
      · as_aux_lemma =>
          intro vals a W hS hL; have e0 : a.tmps.getD 0 undef = .string ⟨l.toArray⟩ := hL.1; have e109 : a.tmps.getD 109 undef = .bool true := hL.2.1; clear hL; refine ⟨true, e109, ?_⟩; rw [if_pos rfl]; go_simp; exact ⟨⟨fun d hd => by injection hd with hd; subst hd; rfl, fun h => by cases h⟩, hS, (Below.refl _ _)⟩
      · as_aux_lemma =>
          intro vals a W hS hL; have e113 : a.tmps.getD 113 undef = .string ⟨l.toArray⟩ := hL.1; have e109 : a.tmps.getD 109 undef = .bool true := hL.2.1; clear hL; refine ⟨true, e109, ?_⟩; rw [if_pos rfl]; go_simp; refine (lS_x (w := W) l).mono ?_; rintro e W2 ⟨rfl, hb⟩; exact ⟨_, rfl, ⟨fun d hd => by injection hd with hd; subst hd; rfl, fun h => by cases h⟩, hS.call hb, hb⟩
      · as_aux_lemma =>
          intro vals a W hS hL; have e112 : a.tmps.getD 112 undef = .agg (vc (.str l)).toArray := hL.1; have e114 : a.tmps.getD 114 undef = .agg (vc (.str l)).toArray := hL.2.1; have e109 : a.tmps.getD 109 undef = .bool true := hL.2.2.1; clear hL; refine ⟨true, e109, ?_⟩; rw [if_pos rfl]; refine lands_v (run_eq32 (v := .str l) rfl e112 e114) ?_; exact ⟨⟨fun d hd => by injection hd with hd; subst hd; rfl, fun h => by cases h⟩, hS, Below.refl _ _⟩
      · as_aux_lemma =>
          intro vals a W hS hL; have e109 : a.tmps.getD 109 undef = .bool true := hL.1; have e115 : a.tmps.getD 115 undef = .bool true := hL.2.1; clear hL; go_simp; exact ⟨⟨fun d hd => by injection hd with hd; subst hd; rfl, fun h => by cases h⟩, hS, (Below.refl _ _)⟩
      · as_aux_lemma =>
          intro vals a W hS hL; have e116 : a.tmps.getD 116 undef = .bool true := hL.1; clear hL; go_simp; exact ⟨⟨fun d hd => by injection hd with hd; subst hd; rfl, fun h => by cases h⟩, hS, (Below.refl _ _)⟩
    · intro a W vals hd hsz hT hF hv hP hS; have HB : Hid (BX w [(g4, 32, vc (.str l)), (g3, 32, vc (.str C1)), (g2, 32, vc (.str C1)), (g1, 32, vc (.str B1)), (g0, 32, vc (.str A1))] W) := Lib.hid hS; have e6 : a.tmps.getD 6 undef = .bool true := hT 6 (by simp); clear hT hF hP hS
      repeat' (first | go_values | go_skip | go_guarded | go_step | go_upon)
      refine bodyPost_ret (results_tmp rfl _ _ _) hd ⟨?_, HB.out.bel⟩; rw [e6]
end Go.Proofs.YtngkolcpbgibcaaGreatDoor
namespace Go.Proofs.YtngkolcpbgibcaaGreatDoor
open Go.Lib
def clsN (c : Nat) : Nat := if c < 128 then 0 else if c < 194 then 4 else if c < 224 then 1 else if c < 240 then 2 else if c < 245 then 3 else 4
def v0N (c : Nat) : Nat := if clsN c = 0 then c else if clsN c = 1 then c % 32 else if clsN c = 2 then c % 16 else c % 8
def leastN (c : Nat) : Nat := if clsN c = 0 then 0 else if clsN c = 1 then 128 else if clsN c = 2 then 2048 else 65536
def foldN (l : List UInt8) (v0 i : Nat) : Nat → Nat
  | 0 => v0
  | k + 1 => foldN l v0 i k * 64 + (l.getD (i + (k + 1)) 0).toNat % 64
def contN (l : List UInt8) (i k : Nat) : Prop := (l.getD (i + k) 0).toNat / 64 = 2
def badV (v least : Nat) : Prop := v < least ∨ (55296 ≤ v ∧ v < 57344) ∨ 1114111 < v
theorem cls_cases (c : Nat) : (clsN c = 0 ∧ c < 128) ∨ (clsN c = 1 ∧ 194 ≤ c ∧ c < 224) ∨ (clsN c = 2 ∧ 224 ≤ c ∧ c < 240) ∨ (clsN c = 3 ∧ 240 ≤ c ∧ c < 245) ∨ (clsN c = 4 ∧ 128 ≤ c ∧ (c < 194 ∨ 245 ≤ c)) := by
  unfold clsN
  by_cases h1 : c < 128
  · rw [if_pos h1]; omega
  · rw [if_neg h1]
    by_cases h2 : c < 194
    · rw [if_pos h2]; omega
    · rw [if_neg h2]
      by_cases h3 : c < 224
      · rw [if_pos h3]; omega
      · rw [if_neg h3]
        by_cases h4 : c < 240
        · rw [if_pos h4]; omega
        · rw [if_neg h4]
          by_cases h5 : c < 245
          · rw [if_pos h5]; omega
          · rw [if_neg h5]; omega
theorem cls_le (c : Nat) : clsN c ≤ 4 := by have := cls_cases c; omega
theorem getD_drop' (l : List UInt8) (i k : Nat) : (l.drop i).getD k 0 = l.getD (i + k) 0 := by simp [List.getD_eq_getElem?_getD]
theorem step_good (l : List UInt8) (i c : Nat) (hc : (l.getD i 0).toNat = c) (h4 : clsN c ≠ 4) (hl : clsN c < l.length - i) (hk : ∀ k, 1 ≤ k → k ≤ clsN c → contN l i k)
    (hb : ¬ badV (foldN l (v0N c) i (clsN c)) (leastN c)) : decodeL (l.drop i) = (foldN l (v0N c) i (clsN c), clsN c + 1) := by
  have e : ∀ k, (l.drop i).getD k 0 = l.getD (i + k) 0 := getD_drop' l i; have hlen : (l.drop i).length = l.length - i := List.length_drop ..; rw [decodeL_N, hlen, e 0, e 1, e 2, e 3]; simp only [Nat.add_zero]; rw [hc]; have k1 := (l.getD (i + 1) 0).toNat_lt; have k2 := (l.getD (i + 2) 0).toNat_lt; have k3 := (l.getD (i + 3) 0).toNat_lt; have hcl : c < 256 := by rw [← hc]; exact (l.getD i 0).toNat_lt
  have hcase : clsN c = 0 ∨ clsN c = 1 ∨ clsN c = 2 ∨ clsN c = 3 := by have := cls_le c; omega
  rcases hcase with h | h | h | h
  · have h1 : c < 128 := by have := cls_cases c; omega
    rw [h]; simp only [foldN, v0N, h, if_true]; unfold decodeN; rw [if_pos h1]
  · have h1 : 194 ≤ c ∧ c < 224 := by have := cls_cases c; omega
    have c1 := hk 1 (by omega) (by omega); unfold contN at c1; rw [h] at hl hb ⊢; simp only [foldN, v0N, leastN, badV, h] at hb ⊢; simp only [Nat.one_ne_zero, if_false, if_true, Nat.zero_add] at hb ⊢; unfold decodeN; rw [if_neg (by omega), if_pos ⟨by omega, by omega, c1⟩, if_pos (by omega)]
  · have h1 : 224 ≤ c ∧ c < 240 := by have := cls_cases c; omega
    have c1 := hk 1 (by omega) (by omega); have c2 := hk 2 (by omega) (by omega); unfold contN at c1 c2; rw [h] at hl hb ⊢; simp only [foldN, v0N, leastN, badV, h] at hb ⊢; simp (config := { decide := true }) only [if_false, if_true, Nat.zero_add, Nat.reduceAdd] at hb ⊢; unfold decodeN; rw [if_neg (by omega), if_neg (by omega), if_pos ⟨by omega, ⟨by omega, c1⟩, by omega, c2⟩, if_pos (by omega)]; refine Prod.ext ?_ rfl; simp only; omega
  · have h1 : 240 ≤ c ∧ c < 245 := by have := cls_cases c; omega
    have c1 := hk 1 (by omega) (by omega); have c2 := hk 2 (by omega) (by omega); have c3 := hk 3 (by omega) (by omega); unfold contN at c1 c2 c3; rw [h] at hl hb ⊢; simp only [foldN, v0N, leastN, badV, h] at hb ⊢; simp (config := { decide := true }) only [if_false, Nat.zero_add, Nat.reduceAdd] at hb ⊢; unfold decodeN; rw [if_neg (by omega), if_neg (by omega), if_neg (by omega), if_pos ⟨by omega, ⟨by omega, c1⟩, ⟨by omega, c2⟩, by omega, c3⟩, if_pos (by omega)]; refine Prod.ext ?_ rfl; simp only; omega
theorem step_bad (l : List UInt8) (i c : Nat) (hi : i < l.length) (hc : (l.getD i 0).toNat = c)
    (h : clsN c = 4 ∨ l.length - i ≤ clsN c ∨ (∃ k, 1 ≤ k ∧ k ≤ clsN c ∧ ¬ contN l i k) ∨ badV (foldN l (v0N c) i (clsN c)) (leastN c)) : decodeL (l.drop i) = (65533, 1) := by
  have e : ∀ k, (l.drop i).getD k 0 = l.getD (i + k) 0 := getD_drop' l i; have hlen : (l.drop i).length = l.length - i := List.length_drop ..; rw [decodeL_N, hlen, e 0, e 1, e 2, e 3]; simp only [Nat.add_zero]; rw [hc]; have k1 := (l.getD (i + 1) 0).toNat_lt; have k2 := (l.getD (i + 2) 0).toNat_lt; have k3 := (l.getD (i + 3) 0).toNat_lt; have hcl : c < 256 := by rw [← hc]; exact (l.getD i 0).toNat_lt
  rcases decodeN_shape (l.length - i) c (l.getD (i + 1) 0).toNat (l.getD (i + 2) 0).toNat (l.getD (i + 3) 0).toNat with ⟨g, e⟩ | ⟨g1, g2, g3, gv, e⟩ | ⟨g1, g2, g3, g4, gv, gs, e⟩ | ⟨g1, g2, g3, g4, g5, gv, gw, e⟩ | e
  · exfalso; have hn : clsN c = 0 := by unfold clsN; rw [if_pos g]
    rcases h with h | h | ⟨k, h1, h2, -⟩ | h
    · omega
    · omega
    · omega
    · rw [hn] at h; simp only [foldN, badV, v0N, leastN, hn, if_true] at h; omega
  · exfalso; have hn : clsN c = 1 := by have := cls_cases c; omega
    rcases h with h | h | ⟨k, h1, h2, h3⟩ | h
    · omega
    · omega
    · obtain rfl : k = 1 := by omega
      exact h3 g3
    · rw [hn] at h; simp only [foldN, badV, v0N, leastN, hn] at h; simp (config := { decide := true }) only [if_false, if_true, Nat.zero_add] at h; omega
  · exfalso; have hn : clsN c = 2 := by have := cls_cases c; omega
    rcases h with h | h | ⟨k, h1, h2, h3⟩ | h
    · omega
    · omega
    · have hk : k = 1 ∨ k = 2 := by omega
      rcases hk with rfl | rfl
      · exact h3 g3
      · exact h3 g4
    · rw [hn] at h; simp only [foldN, badV, v0N, leastN, hn] at h; simp (config := { decide := true }) only [if_false, if_true, Nat.zero_add, Nat.reduceAdd] at h; omega
  · exfalso; have hn : clsN c = 3 := by have := cls_cases c; omega
    rcases h with h | h | ⟨k, h1, h2, h3⟩ | h
    · omega
    · omega
    · have hk : k = 1 ∨ k = 2 ∨ k = 3 := by omega
      rcases hk with rfl | rfl | rfl
      · exact h3 g3
      · exact h3 g4
      · exact h3 g5
    · rw [hn] at h; simp only [foldN, badV, v0N, leastN, hn] at h; simp (config := { decide := true }) only [if_false, Nat.zero_add, Nat.reduceAdd] at h; omega
  · exact e
end Go.Proofs.YtngkolcpbgibcaaGreatDoor
namespace Go.Proofs.YtngkolcpbgibcaaGreatDoor
open Go.RowKit Go.Lib
def ivr (x : Int) : Value := .int .i64 x
theorem intsRow : ElemRow Tryz.prog 60 3 (.int .i64 0) 1 8 := by
  obtain ⟨i, hi, h0, h1, h2⟩ := info_parts (P := Tryz.prog) (e := 3) (z := .int .i64 0) (size := 1) (bytes := 8) (by kernel_rfl); exact ⟨Tryz.underlying60, ⟨i, hi, h0, h1, h2⟩, rfl, by omega⟩
set_option maxRecDepth 100000 in
theorem and192F : ∀ x : Fin 256, bits .and .i64 ((x.val : Nat) : Int) 192 = ((x.val / 64 * 64 : Nat) : Int) := by decide +kernel
set_option maxRecDepth 100000 in
theorem and63F : ∀ x : Fin 256, bits .and .i64 ((x.val : Nat) : Int) 63 = ((x.val % 64 : Nat) : Int) := by decide +kernel
set_option maxRecDepth 100000 in
theorem and31F : ∀ x : Fin 256, bits .and .i64 ((x.val : Nat) : Int) 31 = ((x.val % 32 : Nat) : Int) := by decide +kernel
set_option maxRecDepth 100000 in
theorem and15F : ∀ x : Fin 256, bits .and .i64 ((x.val : Nat) : Int) 15 = ((x.val % 16 : Nat) : Int) := by decide +kernel
set_option maxRecDepth 100000 in
theorem and7F : ∀ x : Fin 256, bits .and .i64 ((x.val : Nat) : Int) 7 = ((x.val % 8 : Nat) : Int) := by decide +kernel
theorem or64 (a b : Nat) (hb : b < 64) (h : a * 64 + b < 2147483648) : bits .or .i64 ((a : Int) * 64) (b : Int) = ((a * 64 + b : Nat) : Int) := by
  rw [show ((a : Int) * 64) = ((a * 64 : Nat) : Int) by omega]
  show IntKind.i64.wrap ((BitVec.ofInt 64 ((a * 64 : Nat) : Int) ||| BitVec.ofInt 64 (b : Int)).toNat : Int) = _
  rw [BitVec.toNat_or, BitVec.ofInt_natCast, BitVec.ofInt_natCast, BitVec.toNat_ofNat, BitVec.toNat_ofNat, Nat.mod_eq_of_lt (by omega), Nat.mod_eq_of_lt (by omega), nat_join 6 (a * 64) b (by omega) hb]; exact IntWalk.i64_in _ (by omega)
theorem fold_lt (l : List UInt8) (v0 i : Nat) (h : v0 < 128) : ∀ k, k ≤ 3 → foldN l v0 i k < 128 * 64 ^ k := by
  intro k
  induction k with
  | zero => intro _; simpa [foldN] using h
  | succ k ih =>
    intro hk; have := ih (by omega); have h2 := (l.getD (i + (k + 1)) 0).toNat_lt; rw [foldN, Nat.pow_succ]; omega
theorem fold_lt3 (l : List UInt8) (v0 i k : Nat) (h : v0 < 128) (hk : k ≤ 3) : foldN l v0 i k < 33554432 := by
  have h1 := fold_lt l v0 i h k hk; have h2 : 64 ^ k ≤ 64 ^ 3 := Nat.pow_le_pow_right (by omega) hk; omega
theorem getD_at (s : ByteArray) (i : Nat) (h : i < s.size) : s.data.toList.getD i 0 = s[i]'h := by
  rw [List.getD_eq_getElem?_getD, List.getElem?_eq_getElem (by simpa using h)]; rfl
theorem rns_good (s : ByteArray) (i r k : Nat) (h : i < s.size) (hd : decodeL (s.data.toList.drop i) = (r, k)) (hv : ¬ (r = 65533 ∧ k = 1)) :
    rns (s.data.toList.drop i) = (r : Int) :: rns (s.data.toList.drop (i + k)) ∧ validD (s.data.toList.drop i) = validD (s.data.toList.drop (i + k)) ∧ i + k ≤ s.size := by
  have hne := drop_ne s i h; have hle := decodeL_le _ hne; refine ⟨?_, ?_, ?_⟩
  · rw [rns_step _ hne, hd, List.drop_drop]
  · rw [validD_step _ hne, hd, if_neg hv, List.drop_drop]
  · rw [hd, List.length_drop] at hle; simp at hle; omega
theorem rns_none (s : ByteArray) (i : Nat) (h : i < s.size) (hd : decodeL (s.data.toList.drop i) = (65533, 1)) : validD (s.data.toList.drop i) = false := by
  rw [validD_step _ (drop_ne s i h), hd, if_pos ⟨rfl, rfl⟩]
def GotR (base : Nat) (l : List UInt8) (e : Ending) (w' : World) : Prop :=
  (validD l = true ∧ ∃ v n, e = .returned (.tuple #[v, .bool true]) ∧ w'.ownsRow base 3 1 v n ((rns l).map ivr)) ∨
  (validD l = false ∧ e = .returned (.tuple #[.slice none 0 0, .bool false]))
set_option maxHeartbeats 16000000 in
set_option maxRecDepth 100000 in
theorem bRunes_any {w : World} (s : ByteArray) (hs : s.size ≤ 100000000) :
    Calls Tryz.prog 28 #[.string s] w fun e w' => GotR w.heap.size s.data.toList e w' ∧ Below w.heap.size w w' := by
  obtain ⟨l, hl⟩ : ∃ l, s.data.toList = l := ⟨_, rfl⟩
  have HL := Lib.hid hl; rw [hl]; clear hl; have HLEN : Hid (l.length = s.size) := Lib.hid (by rw [← HL.out]; simp); go_enter Tryz.func28, Tryz.ntmps28; go_wp2
  go_loopw [4, 5] (fun s4 s5 wr => ∃ (i q : Nat) (acc : List Int), s5 = .int .i64 i ∧ wr.ownsRow w.heap.size 3 1 s4 q (acc.map ivr) ∧ i ≤ s.size ∧ q ≤ i ∧ Below w.heap.size w wr ∧ Hid (acc ++ rns (l.drop i) = rns l ∧ validD (l.drop i) = validD l)) (fun _ s5 _ => s.size - (Go.RowKit.intOf s5).toNat)
  case atStart => exact ⟨0, 0, [], rfl, World.ownsRow_nil _ _ _ _, by omega, by omega, Below.refl _ _, Lib.hid ⟨by simp, by simp⟩⟩
  case round =>
    obtain ⟨i, q, acc, rfl, ho, hi, hq, hbel, HS⟩ := hrel; have hsz := hbel.size
    by_cases hi1 : i < s.size
    · have hi1' : (i : Int) < (s.size : Int) := by omega
      obtain ⟨c, hc⟩ : ∃ c, (l.getD i 0).toNat = c := ⟨_, rfl⟩
      have hcx : (s[i]'hi1).toNat = c := by rw [← getD_at s i hi1, HL.out]; exact hc
      have hc256 : c < 256 := by rw [← hc]; exact (l.getD i 0).toNat_lt
      have HBAD : ∀ (_ : clsN c = 4 ∨ l.length - i ≤ clsN c ∨ (∃ k, 1 ≤ k ∧ k ≤ clsN c ∧ ¬ contN l i k) ∨ badV (foldN l (v0N c) i (clsN c)) (leastN c)), validD l = false := fun h => by
        rw [← HS.out.2, ← HL.out]; exact rns_none s i hi1 (by rw [HL.out]; exact step_bad l i c (by rw [HLEN.out]; exact hi1) hc h)
      have HGOOD : ∀ (_ : clsN c ≠ 4) (_ : clsN c < l.length - i) (_ : ∀ k, 1 ≤ k → k ≤ clsN c → contN l i k) (_ : ¬ badV (foldN l (v0N c) i (clsN c)) (leastN c)),
          (acc ++ [(foldN l (v0N c) i (clsN c) : Int)]) ++ rns (l.drop (i + (clsN c + 1))) = rns l ∧ validD (l.drop (i + (clsN c + 1))) = validD l ∧ i + (clsN c + 1) ≤ s.size := fun h1 h2 h3 h4 => by
        have hd := step_good l i c hc h1 h2 h3 h4
        obtain ⟨g1, g2, g3⟩ := rns_good s i (foldN l (v0N c) i (clsN c)) (clsN c + 1) hi1 (by rw [HL.out]; exact hd) (by
          rintro ⟨e1, e2⟩; have hz : clsN c = 0 := by omega
          rw [hz] at e1; have hcc := cls_cases c; simp only [foldN, v0N, hz, if_true] at e1
          omega)
        rw [HL.out] at g1 g2; rw [← HS.out.1, ← HS.out.2, g1, g2]; exact ⟨by simp, rfl, g3⟩
      have HB := Lib.hid HBAD; have HG := Lib.hid HGOOD; have HC := Lib.hid hc; clear HBAD HGOOD HS hc; have hcl := cls_cases c; have a192 := and192F; clear a192
      rcases hcl with ⟨hn, x0⟩ | ⟨hn, x0, x1⟩ | ⟨hn, x0, x1⟩ | ⟨hn, x0, x1⟩ | ⟨hn, x0, x1⟩
      · have y0 : (c : Int) < 128 := by omega
        obtain ⟨V0, hV0⟩ : ∃ V0, v0N c = V0 := ⟨_, rfl⟩
        have hVd : c = V0 := by rw [← hV0]; simp [v0N, hn]
        have hV128 : V0 < 128 := by rw [← hVd]; omega
        have HG2 := HG.out; have HB2 := HB.out; clear HG HB; rw [hn, hV0, show leastN c = 0 by simp [leastN, hn]] at HG2 HB2; have HG := Lib.hid HG2; have HB := Lib.hid HB2; clear HG2 HB2 hV0; obtain rfl : V0 = c := hVd.symm
        by_cases hrem : (s.size : Int) - (i : Int) ≤ 0
        · have hF : validD l = false := HB.out (.inr (.inl (by rw [HLEN.out]; omega))); have hF2 := Lib.hid hF; clear hF HB HG; go_wp2
          go_ret2
          exact ⟨.inr ⟨hF2.out, rfl⟩, hbel⟩
        · go_wp2
          go_loopw [8, 10] (fun s8 s10 wx => ∃ k v : Nat, s10 = .int .i64 ((k + 1 : Nat) : Int) ∧ s8 = .int .i64 v ∧ k ≤ 0 ∧ wx = wr ∧ Hid (v = foldN l V0 i k ∧ ∀ j, 1 ≤ j → j ≤ k → contN l i j)) (fun _ s10 _ => 0 + 1 - (Go.RowKit.intOf s10).toNat)
          case atStart => refine ⟨0, V0, ?_, ?_, by omega, ?_, Lib.hid (by
            refine ⟨?_, ?_⟩
            · first | rfl | trivial
            · intro j h1 h2; omega)⟩ <;> first | rfl | trivial
          case round =>
            obtain ⟨k, v, rfl, rfl, hk, rfl, HV⟩ := hrel
            by_cases hkn : k < 0
            · exact absurd hkn (by omega)
            · obtain rfl : k = 0 := by omega
              have hkn' : ¬ (((0 : Nat) + 1 : Nat) : Int) ≤ 0 := by omega
              have hv := HV.out.1; have hvlt : v < 33554432 := by rw [hv]; exact fold_lt3 l V0 i 0 hV128 (by omega)
              have HB3 := HB.out; have HG3 := HG.out (by decide) (by rw [HLEN.out]; omega) HV.out.2; rw [← hv] at HB3 HG3; have HG := Lib.hid HG3; have HB := Lib.hid HB3; clear HG3 HB3 hv HV; have z0' : ¬ (v : Int) < 0 := by omega
              by_cases z1 : v < 55296
              · have z1' : ¬ (55296 : Int) ≤ (v : Int) := by omega
                have z3' : ¬ (1114111 : Int) < (v : Int) := by omega
                obtain ⟨g1, g2, g3⟩ := HG.out (by unfold badV; omega); have HG2 := Lib.hid (And.intro g1 g2); clear g1 g2 HB HG
                go_wp2_with (at_builtin; refine wpList_app intsRow rfl (.tmp 91) (.tmp 93) rfl rfl rfl (ho.alloc _) (Rd.fresh _ _ 1 1 _ rfl) ?_ ?_ ?_ ?_ ?_)
                any_goals first | rfl | (unfold maxLen; omega) | omega | (intro u hu; simp at hu; subst hu; rfl) | (simp; omega)
                intro v9 w9 o9 g9 b9; have hbel9 := (hbel.alloc hbel.size _).trans b9
                have o9' : w9.ownsRow w.heap.size 3 1 v9 (q + 1) ((acc ++ [(v : Int)]).map ivr) := by
                  rw [List.map_append, List.map_cons, List.map_nil]; exact o9
                clear o9 g9 b9 ho hbel; go_wp2
                go_roundw
                case rel => exact ⟨i + (0 + 1), q + 1, acc ++ [(v : Int)], by go_num, o9', g3, by omega, hbel9, HG2⟩
                case measure => simp [Go.RowKit.intOf]; omega
              · have z1' : (55296 : Int) ≤ (v : Int) := by omega
                by_cases z2 : v < 57344
                · have z2' : (v : Int) < 57344 := by omega
                  have hF : validD l = false := HB.out (.inr (.inr (.inr (by unfold badV; omega)))); have hF2 := Lib.hid hF; clear hF HB HG; go_wp2
                  go_ret2
                  exact ⟨.inr ⟨hF2.out, rfl⟩, hbel⟩
                · have z2' : ¬ (v : Int) < 57344 := by omega
                  by_cases z3 : 1114111 < v
                  · have z3' : (1114111 : Int) < (v : Int) := by omega
                    have hF : validD l = false := HB.out (.inr (.inr (.inr (by unfold badV; omega)))); have hF2 := Lib.hid hF; clear hF HB HG; go_wp2
                    go_ret2
                    exact ⟨.inr ⟨hF2.out, rfl⟩, hbel⟩
                  · have z3' : ¬ (1114111 : Int) < (v : Int) := by omega
                    obtain ⟨g1, g2, g3⟩ := HG.out (by unfold badV; omega); have HG2 := Lib.hid (And.intro g1 g2); clear g1 g2 HB HG
                    go_wp2_with (at_builtin; refine wpList_app intsRow rfl (.tmp 91) (.tmp 93) rfl rfl rfl (ho.alloc _) (Rd.fresh _ _ 1 1 _ rfl) ?_ ?_ ?_ ?_ ?_)
                    any_goals first | rfl | (unfold maxLen; omega) | omega | (intro u hu; simp at hu; subst hu; rfl) | (simp; omega)
                    intro v9 w9 o9 g9 b9; have hbel9 := (hbel.alloc hbel.size _).trans b9
                    have o9' : w9.ownsRow w.heap.size 3 1 v9 (q + 1) ((acc ++ [(v : Int)]).map ivr) := by
                      rw [List.map_append, List.map_cons, List.map_nil]; exact o9
                    clear o9 g9 b9 ho hbel; go_wp2
                    go_roundw
                    case rel => exact ⟨i + (0 + 1), q + 1, acc ++ [(v : Int)], by go_num, o9', g3, by omega, hbel9, HG2⟩
                    case measure => simp [Go.RowKit.intOf]; omega
      · have y0 : ¬ (c : Int) < 128 := by omega
        have y1 : (194 : Int) ≤ (c : Int) := by omega
        have y2 : (c : Int) < 224 := by omega
        have am : bits .and .i64 (c : Int) 31 = ((c % 32 : Nat) : Int) := and31F ⟨c, hc256⟩; obtain ⟨V0, hV0⟩ : ∃ V0, v0N c = V0 := ⟨_, rfl⟩
        have hVd : c % 32 = V0 := by rw [← hV0]; simp [v0N, hn]
        have hV128 : V0 < 128 := by rw [← hVd]; omega
        have HG2 := HG.out; have HB2 := HB.out; clear HG HB; rw [hn, hV0, show leastN c = 128 by simp [leastN, hn]] at HG2 HB2; have HG := Lib.hid HG2; have HB := Lib.hid HB2; clear HG2 HB2 hV0; rw [hVd] at am
        by_cases hrem : (s.size : Int) - (i : Int) ≤ 1
        · have hF : validD l = false := HB.out (.inr (.inl (by rw [HLEN.out]; omega))); have hF2 := Lib.hid hF; clear hF HB HG; go_wp2
          go_ret2
          exact ⟨.inr ⟨hF2.out, rfl⟩, hbel⟩
        · go_wp2
          go_loopw [8, 10] (fun s8 s10 wx => ∃ k v : Nat, s10 = .int .i64 ((k + 1 : Nat) : Int) ∧ s8 = .int .i64 v ∧ k ≤ 1 ∧ wx = wr ∧ Hid (v = foldN l V0 i k ∧ ∀ j, 1 ≤ j → j ≤ k → contN l i j)) (fun _ s10 _ => 1 + 1 - (Go.RowKit.intOf s10).toNat)
          case atStart => refine ⟨0, V0, ?_, ?_, by omega, ?_, Lib.hid (by
            refine ⟨?_, ?_⟩
            · first | rfl | trivial
            · intro j h1 h2; omega)⟩ <;> first | rfl | trivial
          case round =>
            obtain ⟨k, v, rfl, rfl, hk, rfl, HV⟩ := hrel
            by_cases hkn : k < 1
            · have hkn' : ((k + 1 : Nat) : Int) ≤ 1 := by omega
              have hkn2 : (k : Int) + 1 ≤ 1 := by omega
              have hik : i + (k + 1) < s.size := by omega
              have hik' : (i : Int) + ((k : Int) + 1) < (s.size : Int) := by omega
              obtain ⟨d, hd⟩ : ∃ d, (l.getD (i + (k + 1)) 0).toNat = d := ⟨_, rfl⟩
              have hdx : (s[i + (k + 1)]'hik).toNat = d := by rw [← getD_at s (i + (k + 1)) hik, HL.out]; exact hd
              have hd256 : d < 256 := by rw [← hd]; exact (l.getD (i + (k + 1)) 0).toNat_lt
              have b1 : bits .and .i64 (d : Int) 192 = ((d / 64 * 64 : Nat) : Int) := and192F ⟨d, hd256⟩; have b2 : bits .and .i64 (d : Int) 63 = ((d % 64 : Nat) : Int) := and63F ⟨d, hd256⟩; have hvlt : v < 33554432 := by rw [HV.out.1]; exact fold_lt3 l V0 i k hV128 (by omega)
              have b3 : bits .or .i64 ((v : Int) * 64) ((d % 64 : Nat) : Int) = ((v * 64 + d % 64 : Nat) : Int) := or64 v (d % 64) (by omega) (by omega); have HD := Lib.hid hd; clear hd; obtain ⟨D, hD⟩ : ∃ D, ((d / 64 * 64 : Nat) : Int) = D := ⟨_, rfl⟩
              rw [hD] at b1; obtain ⟨D2, hD2⟩ : ∃ D2, ((d % 64 : Nat) : Int) = D2 := ⟨_, rfl⟩
              rw [hD2] at b2 b3; obtain ⟨V2, hV2⟩ : ∃ V2, v * 64 + d % 64 = V2 := ⟨_, rfl⟩
              rw [hV2] at b3
              by_cases hct : d / 64 = 2
              · have hDe : D = 128 := by rw [← hD]; omega
                subst hDe
                have HV2 : Hid (V2 = foldN l V0 i (k + 1) ∧ ∀ j, 1 ≤ j → j ≤ k + 1 → contN l i j) := Lib.hid (by
                  refine ⟨by rw [foldN, HD.out, ← HV.out.1]; exact hV2.symm, fun j h1 h2 => ?_⟩
                  by_cases hj : j ≤ k
                  · exact HV.out.2 j h1 hj
                  · obtain rfl : j = k + 1 := by omega
                    unfold contN; rw [HD.out]
                    exact hct)
                clear HV HD hD hD2 hV2 hct; go_wp2
                go_roundw
                case rel => refine ⟨k + 1, V2, ?_, ?_, ?_, ?_, HV2⟩ <;> first | rfl | trivial | go_num | omega
                case measure => simp [Go.RowKit.intOf]; omega
              · have hDe : (D != 128) = true := by simp; omega
                have hF : validD l = false := HB.out (.inr (.inr (.inl ⟨k + 1, by omega, by omega, by unfold contN; rw [HD.out]; exact hct⟩))); have hF2 := Lib.hid hF; clear hF HB HG HV HD hD hD2 hV2 hct; go_wp2
                go_ret2
                exact ⟨.inr ⟨hF2.out, rfl⟩, hbel⟩
            · obtain rfl : k = 1 := by omega
              have hkn' : ¬ (((1 : Nat) + 1 : Nat) : Int) ≤ 1 := by omega
              have hv := HV.out.1; have hvlt : v < 33554432 := by rw [hv]; exact fold_lt3 l V0 i 1 hV128 (by omega)
              have HB3 := HB.out; have HG3 := HG.out (by decide) (by rw [HLEN.out]; omega) HV.out.2; rw [← hv] at HB3 HG3; have HG := Lib.hid HG3; have HB := Lib.hid HB3; clear HG3 HB3 hv HV
              by_cases z0 : v < 128
              · have z0' : (v : Int) < 128 := by omega
                have hF : validD l = false := HB.out (.inr (.inr (.inr (by unfold badV; omega)))); have hF2 := Lib.hid hF; clear hF HB HG; go_wp2
                go_ret2
                exact ⟨.inr ⟨hF2.out, rfl⟩, hbel⟩
              · have z0' : ¬ (v : Int) < 128 := by omega
                by_cases z1 : v < 55296
                · have z1' : ¬ (55296 : Int) ≤ (v : Int) := by omega
                  have z3' : ¬ (1114111 : Int) < (v : Int) := by omega
                  obtain ⟨g1, g2, g3⟩ := HG.out (by unfold badV; omega); have HG2 := Lib.hid (And.intro g1 g2); clear g1 g2 HB HG
                  go_wp2_with (at_builtin; refine wpList_app intsRow rfl (.tmp 91) (.tmp 93) rfl rfl rfl (ho.alloc _) (Rd.fresh _ _ 1 1 _ rfl) ?_ ?_ ?_ ?_ ?_)
                  any_goals first | rfl | (unfold maxLen; omega) | omega | (intro u hu; simp at hu; subst hu; rfl) | (simp; omega)
                  intro v9 w9 o9 g9 b9; have hbel9 := (hbel.alloc hbel.size _).trans b9
                  have o9' : w9.ownsRow w.heap.size 3 1 v9 (q + 1) ((acc ++ [(v : Int)]).map ivr) := by
                    rw [List.map_append, List.map_cons, List.map_nil]; exact o9
                  clear o9 g9 b9 ho hbel; go_wp2
                  go_roundw
                  case rel => exact ⟨i + (1 + 1), q + 1, acc ++ [(v : Int)], by go_num, o9', g3, by omega, hbel9, HG2⟩
                  case measure => simp [Go.RowKit.intOf]; omega
                · have z1' : (55296 : Int) ≤ (v : Int) := by omega
                  by_cases z2 : v < 57344
                  · have z2' : (v : Int) < 57344 := by omega
                    have hF : validD l = false := HB.out (.inr (.inr (.inr (by unfold badV; omega)))); have hF2 := Lib.hid hF; clear hF HB HG; go_wp2
                    go_ret2
                    exact ⟨.inr ⟨hF2.out, rfl⟩, hbel⟩
                  · have z2' : ¬ (v : Int) < 57344 := by omega
                    by_cases z3 : 1114111 < v
                    · have z3' : (1114111 : Int) < (v : Int) := by omega
                      have hF : validD l = false := HB.out (.inr (.inr (.inr (by unfold badV; omega)))); have hF2 := Lib.hid hF; clear hF HB HG; go_wp2
                      go_ret2
                      exact ⟨.inr ⟨hF2.out, rfl⟩, hbel⟩
                    · have z3' : ¬ (1114111 : Int) < (v : Int) := by omega
                      obtain ⟨g1, g2, g3⟩ := HG.out (by unfold badV; omega); have HG2 := Lib.hid (And.intro g1 g2); clear g1 g2 HB HG
                      go_wp2_with (at_builtin; refine wpList_app intsRow rfl (.tmp 91) (.tmp 93) rfl rfl rfl (ho.alloc _) (Rd.fresh _ _ 1 1 _ rfl) ?_ ?_ ?_ ?_ ?_)
                      any_goals first | rfl | (unfold maxLen; omega) | omega | (intro u hu; simp at hu; subst hu; rfl) | (simp; omega)
                      intro v9 w9 o9 g9 b9; have hbel9 := (hbel.alloc hbel.size _).trans b9
                      have o9' : w9.ownsRow w.heap.size 3 1 v9 (q + 1) ((acc ++ [(v : Int)]).map ivr) := by
                        rw [List.map_append, List.map_cons, List.map_nil]; exact o9
                      clear o9 g9 b9 ho hbel; go_wp2
                      go_roundw
                      case rel => exact ⟨i + (1 + 1), q + 1, acc ++ [(v : Int)], by go_num, o9', g3, by omega, hbel9, HG2⟩
                      case measure => simp [Go.RowKit.intOf]; omega
      · have y0 : ¬ (c : Int) < 128 := by omega
        have y1 : ¬ (c : Int) < 224 := by omega
        have y1b : (194 : Int) ≤ (c : Int) := by omega
        have y2 : (224 : Int) ≤ (c : Int) := by omega
        have y3 : (c : Int) < 240 := by omega
        have am : bits .and .i64 (c : Int) 15 = ((c % 16 : Nat) : Int) := and15F ⟨c, hc256⟩; obtain ⟨V0, hV0⟩ : ∃ V0, v0N c = V0 := ⟨_, rfl⟩
        have hVd : c % 16 = V0 := by rw [← hV0]; simp [v0N, hn]
        have hV128 : V0 < 128 := by rw [← hVd]; omega
        have HG2 := HG.out; have HB2 := HB.out; clear HG HB; rw [hn, hV0, show leastN c = 2048 by simp [leastN, hn]] at HG2 HB2; have HG := Lib.hid HG2; have HB := Lib.hid HB2; clear HG2 HB2 hV0; rw [hVd] at am
        by_cases hrem : (s.size : Int) - (i : Int) ≤ 2
        · have hF : validD l = false := HB.out (.inr (.inl (by rw [HLEN.out]; omega))); have hF2 := Lib.hid hF; clear hF HB HG; go_wp2
          go_ret2
          exact ⟨.inr ⟨hF2.out, rfl⟩, hbel⟩
        · go_wp2
          go_loopw [8, 10] (fun s8 s10 wx => ∃ k v : Nat, s10 = .int .i64 ((k + 1 : Nat) : Int) ∧ s8 = .int .i64 v ∧ k ≤ 2 ∧ wx = wr ∧ Hid (v = foldN l V0 i k ∧ ∀ j, 1 ≤ j → j ≤ k → contN l i j)) (fun _ s10 _ => 2 + 1 - (Go.RowKit.intOf s10).toNat)
          case atStart => refine ⟨0, V0, ?_, ?_, by omega, ?_, Lib.hid (by
            refine ⟨?_, ?_⟩
            · first | rfl | trivial
            · intro j h1 h2; omega)⟩ <;> first | rfl | trivial
          case round =>
            obtain ⟨k, v, rfl, rfl, hk, rfl, HV⟩ := hrel
            by_cases hkn : k < 2
            · have hkn' : ((k + 1 : Nat) : Int) ≤ 2 := by omega
              have hkn2 : (k : Int) + 1 ≤ 2 := by omega
              have hik : i + (k + 1) < s.size := by omega
              have hik' : (i : Int) + ((k : Int) + 1) < (s.size : Int) := by omega
              obtain ⟨d, hd⟩ : ∃ d, (l.getD (i + (k + 1)) 0).toNat = d := ⟨_, rfl⟩
              have hdx : (s[i + (k + 1)]'hik).toNat = d := by rw [← getD_at s (i + (k + 1)) hik, HL.out]; exact hd
              have hd256 : d < 256 := by rw [← hd]; exact (l.getD (i + (k + 1)) 0).toNat_lt
              have b1 : bits .and .i64 (d : Int) 192 = ((d / 64 * 64 : Nat) : Int) := and192F ⟨d, hd256⟩; have b2 : bits .and .i64 (d : Int) 63 = ((d % 64 : Nat) : Int) := and63F ⟨d, hd256⟩; have hvlt : v < 33554432 := by rw [HV.out.1]; exact fold_lt3 l V0 i k hV128 (by omega)
              have b3 : bits .or .i64 ((v : Int) * 64) ((d % 64 : Nat) : Int) = ((v * 64 + d % 64 : Nat) : Int) := or64 v (d % 64) (by omega) (by omega); have HD := Lib.hid hd; clear hd; obtain ⟨D, hD⟩ : ∃ D, ((d / 64 * 64 : Nat) : Int) = D := ⟨_, rfl⟩
              rw [hD] at b1; obtain ⟨D2, hD2⟩ : ∃ D2, ((d % 64 : Nat) : Int) = D2 := ⟨_, rfl⟩
              rw [hD2] at b2 b3; obtain ⟨V2, hV2⟩ : ∃ V2, v * 64 + d % 64 = V2 := ⟨_, rfl⟩
              rw [hV2] at b3
              by_cases hct : d / 64 = 2
              · have hDe : D = 128 := by rw [← hD]; omega
                subst hDe
                have HV2 : Hid (V2 = foldN l V0 i (k + 1) ∧ ∀ j, 1 ≤ j → j ≤ k + 1 → contN l i j) := Lib.hid (by
                  refine ⟨by rw [foldN, HD.out, ← HV.out.1]; exact hV2.symm, fun j h1 h2 => ?_⟩
                  by_cases hj : j ≤ k
                  · exact HV.out.2 j h1 hj
                  · obtain rfl : j = k + 1 := by omega
                    unfold contN; rw [HD.out]
                    exact hct)
                clear HV HD hD hD2 hV2 hct; go_wp2
                go_roundw
                case rel => refine ⟨k + 1, V2, ?_, ?_, ?_, ?_, HV2⟩ <;> first | rfl | trivial | go_num | omega
                case measure => simp [Go.RowKit.intOf]; omega
              · have hDe : (D != 128) = true := by simp; omega
                have hF : validD l = false := HB.out (.inr (.inr (.inl ⟨k + 1, by omega, by omega, by unfold contN; rw [HD.out]; exact hct⟩))); have hF2 := Lib.hid hF; clear hF HB HG HV HD hD hD2 hV2 hct; go_wp2
                go_ret2
                exact ⟨.inr ⟨hF2.out, rfl⟩, hbel⟩
            · obtain rfl : k = 2 := by omega
              have hkn' : ¬ (((2 : Nat) + 1 : Nat) : Int) ≤ 2 := by omega
              have hv := HV.out.1; have hvlt : v < 33554432 := by rw [hv]; exact fold_lt3 l V0 i 2 hV128 (by omega)
              have HB3 := HB.out; have HG3 := HG.out (by decide) (by rw [HLEN.out]; omega) HV.out.2; rw [← hv] at HB3 HG3; have HG := Lib.hid HG3; have HB := Lib.hid HB3; clear HG3 HB3 hv HV
              by_cases z0 : v < 2048
              · have z0' : (v : Int) < 2048 := by omega
                have hF : validD l = false := HB.out (.inr (.inr (.inr (by unfold badV; omega)))); have hF2 := Lib.hid hF; clear hF HB HG; go_wp2
                go_ret2
                exact ⟨.inr ⟨hF2.out, rfl⟩, hbel⟩
              · have z0' : ¬ (v : Int) < 2048 := by omega
                by_cases z1 : v < 55296
                · have z1' : ¬ (55296 : Int) ≤ (v : Int) := by omega
                  have z3' : ¬ (1114111 : Int) < (v : Int) := by omega
                  obtain ⟨g1, g2, g3⟩ := HG.out (by unfold badV; omega); have HG2 := Lib.hid (And.intro g1 g2); clear g1 g2 HB HG
                  go_wp2_with (at_builtin; refine wpList_app intsRow rfl (.tmp 91) (.tmp 93) rfl rfl rfl (ho.alloc _) (Rd.fresh _ _ 1 1 _ rfl) ?_ ?_ ?_ ?_ ?_)
                  any_goals first | rfl | (unfold maxLen; omega) | omega | (intro u hu; simp at hu; subst hu; rfl) | (simp; omega)
                  intro v9 w9 o9 g9 b9; have hbel9 := (hbel.alloc hbel.size _).trans b9
                  have o9' : w9.ownsRow w.heap.size 3 1 v9 (q + 1) ((acc ++ [(v : Int)]).map ivr) := by
                    rw [List.map_append, List.map_cons, List.map_nil]; exact o9
                  clear o9 g9 b9 ho hbel; go_wp2
                  go_roundw
                  case rel => exact ⟨i + (2 + 1), q + 1, acc ++ [(v : Int)], by go_num, o9', g3, by omega, hbel9, HG2⟩
                  case measure => simp [Go.RowKit.intOf]; omega
                · have z1' : (55296 : Int) ≤ (v : Int) := by omega
                  by_cases z2 : v < 57344
                  · have z2' : (v : Int) < 57344 := by omega
                    have hF : validD l = false := HB.out (.inr (.inr (.inr (by unfold badV; omega)))); have hF2 := Lib.hid hF; clear hF HB HG; go_wp2
                    go_ret2
                    exact ⟨.inr ⟨hF2.out, rfl⟩, hbel⟩
                  · have z2' : ¬ (v : Int) < 57344 := by omega
                    by_cases z3 : 1114111 < v
                    · have z3' : (1114111 : Int) < (v : Int) := by omega
                      have hF : validD l = false := HB.out (.inr (.inr (.inr (by unfold badV; omega)))); have hF2 := Lib.hid hF; clear hF HB HG; go_wp2
                      go_ret2
                      exact ⟨.inr ⟨hF2.out, rfl⟩, hbel⟩
                    · have z3' : ¬ (1114111 : Int) < (v : Int) := by omega
                      obtain ⟨g1, g2, g3⟩ := HG.out (by unfold badV; omega); have HG2 := Lib.hid (And.intro g1 g2); clear g1 g2 HB HG
                      go_wp2_with (at_builtin; refine wpList_app intsRow rfl (.tmp 91) (.tmp 93) rfl rfl rfl (ho.alloc _) (Rd.fresh _ _ 1 1 _ rfl) ?_ ?_ ?_ ?_ ?_)
                      any_goals first | rfl | (unfold maxLen; omega) | omega | (intro u hu; simp at hu; subst hu; rfl) | (simp; omega)
                      intro v9 w9 o9 g9 b9; have hbel9 := (hbel.alloc hbel.size _).trans b9
                      have o9' : w9.ownsRow w.heap.size 3 1 v9 (q + 1) ((acc ++ [(v : Int)]).map ivr) := by
                        rw [List.map_append, List.map_cons, List.map_nil]; exact o9
                      clear o9 g9 b9 ho hbel; go_wp2
                      go_roundw
                      case rel => exact ⟨i + (2 + 1), q + 1, acc ++ [(v : Int)], by go_num, o9', g3, by omega, hbel9, HG2⟩
                      case measure => simp [Go.RowKit.intOf]; omega
      · have y0 : ¬ (c : Int) < 128 := by omega
        have y1 : ¬ (c : Int) < 224 := by omega
        have y1b : (194 : Int) ≤ (c : Int) := by omega
        have y2 : ¬ (c : Int) < 240 := by omega
        have y2b : (224 : Int) ≤ (c : Int) := by omega
        have y3 : (240 : Int) ≤ (c : Int) := by omega
        have y4 : (c : Int) < 245 := by omega
        have am : bits .and .i64 (c : Int) 7 = ((c % 8 : Nat) : Int) := and7F ⟨c, hc256⟩; obtain ⟨V0, hV0⟩ : ∃ V0, v0N c = V0 := ⟨_, rfl⟩
        have hVd : c % 8 = V0 := by rw [← hV0]; simp [v0N, hn]
        have hV128 : V0 < 128 := by rw [← hVd]; omega
        have HG2 := HG.out; have HB2 := HB.out; clear HG HB; rw [hn, hV0, show leastN c = 65536 by simp [leastN, hn]] at HG2 HB2; have HG := Lib.hid HG2; have HB := Lib.hid HB2; clear HG2 HB2 hV0; rw [hVd] at am
        by_cases hrem : (s.size : Int) - (i : Int) ≤ 3
        · have hF : validD l = false := HB.out (.inr (.inl (by rw [HLEN.out]; omega))); have hF2 := Lib.hid hF; clear hF HB HG; go_wp2
          go_ret2
          exact ⟨.inr ⟨hF2.out, rfl⟩, hbel⟩
        · go_wp2
          go_loopw [8, 10] (fun s8 s10 wx => ∃ k v : Nat, s10 = .int .i64 ((k + 1 : Nat) : Int) ∧ s8 = .int .i64 v ∧ k ≤ 3 ∧ wx = wr ∧ Hid (v = foldN l V0 i k ∧ ∀ j, 1 ≤ j → j ≤ k → contN l i j)) (fun _ s10 _ => 3 + 1 - (Go.RowKit.intOf s10).toNat)
          case atStart => refine ⟨0, V0, ?_, ?_, by omega, ?_, Lib.hid (by
            refine ⟨?_, ?_⟩
            · first | rfl | trivial
            · intro j h1 h2; omega)⟩ <;> first | rfl | trivial
          case round =>
            obtain ⟨k, v, rfl, rfl, hk, rfl, HV⟩ := hrel
            by_cases hkn : k < 3
            · have hkn' : ((k + 1 : Nat) : Int) ≤ 3 := by omega
              have hkn2 : (k : Int) + 1 ≤ 3 := by omega
              have hik : i + (k + 1) < s.size := by omega
              have hik' : (i : Int) + ((k : Int) + 1) < (s.size : Int) := by omega
              obtain ⟨d, hd⟩ : ∃ d, (l.getD (i + (k + 1)) 0).toNat = d := ⟨_, rfl⟩
              have hdx : (s[i + (k + 1)]'hik).toNat = d := by rw [← getD_at s (i + (k + 1)) hik, HL.out]; exact hd
              have hd256 : d < 256 := by rw [← hd]; exact (l.getD (i + (k + 1)) 0).toNat_lt
              have b1 : bits .and .i64 (d : Int) 192 = ((d / 64 * 64 : Nat) : Int) := and192F ⟨d, hd256⟩; have b2 : bits .and .i64 (d : Int) 63 = ((d % 64 : Nat) : Int) := and63F ⟨d, hd256⟩; have hvlt : v < 33554432 := by rw [HV.out.1]; exact fold_lt3 l V0 i k hV128 (by omega)
              have b3 : bits .or .i64 ((v : Int) * 64) ((d % 64 : Nat) : Int) = ((v * 64 + d % 64 : Nat) : Int) := or64 v (d % 64) (by omega) (by omega); have HD := Lib.hid hd; clear hd; obtain ⟨D, hD⟩ : ∃ D, ((d / 64 * 64 : Nat) : Int) = D := ⟨_, rfl⟩
              rw [hD] at b1; obtain ⟨D2, hD2⟩ : ∃ D2, ((d % 64 : Nat) : Int) = D2 := ⟨_, rfl⟩
              rw [hD2] at b2 b3; obtain ⟨V2, hV2⟩ : ∃ V2, v * 64 + d % 64 = V2 := ⟨_, rfl⟩
              rw [hV2] at b3
              by_cases hct : d / 64 = 2
              · have hDe : D = 128 := by rw [← hD]; omega
                subst hDe
                have HV2 : Hid (V2 = foldN l V0 i (k + 1) ∧ ∀ j, 1 ≤ j → j ≤ k + 1 → contN l i j) := Lib.hid (by
                  refine ⟨by rw [foldN, HD.out, ← HV.out.1]; exact hV2.symm, fun j h1 h2 => ?_⟩
                  by_cases hj : j ≤ k
                  · exact HV.out.2 j h1 hj
                  · obtain rfl : j = k + 1 := by omega
                    unfold contN; rw [HD.out]
                    exact hct)
                clear HV HD hD hD2 hV2 hct; go_wp2
                go_roundw
                case rel => refine ⟨k + 1, V2, ?_, ?_, ?_, ?_, HV2⟩ <;> first | rfl | trivial | go_num | omega
                case measure => simp [Go.RowKit.intOf]; omega
              · have hDe : (D != 128) = true := by simp; omega
                have hF : validD l = false := HB.out (.inr (.inr (.inl ⟨k + 1, by omega, by omega, by unfold contN; rw [HD.out]; exact hct⟩))); have hF2 := Lib.hid hF; clear hF HB HG HV HD hD hD2 hV2 hct; go_wp2
                go_ret2
                exact ⟨.inr ⟨hF2.out, rfl⟩, hbel⟩
            · obtain rfl : k = 3 := by omega
              have hkn' : ¬ (((3 : Nat) + 1 : Nat) : Int) ≤ 3 := by omega
              have hv := HV.out.1; have hvlt : v < 33554432 := by rw [hv]; exact fold_lt3 l V0 i 3 hV128 (by omega)
              have HB3 := HB.out; have HG3 := HG.out (by decide) (by rw [HLEN.out]; omega) HV.out.2; rw [← hv] at HB3 HG3; have HG := Lib.hid HG3; have HB := Lib.hid HB3; clear HG3 HB3 hv HV
              by_cases z0 : v < 65536
              · have z0' : (v : Int) < 65536 := by omega
                have hF : validD l = false := HB.out (.inr (.inr (.inr (by unfold badV; omega)))); have hF2 := Lib.hid hF; clear hF HB HG; go_wp2
                go_ret2
                exact ⟨.inr ⟨hF2.out, rfl⟩, hbel⟩
              · have z0' : ¬ (v : Int) < 65536 := by omega
                by_cases z1 : v < 55296
                · have z1' : ¬ (55296 : Int) ≤ (v : Int) := by omega
                  have z3' : ¬ (1114111 : Int) < (v : Int) := by omega
                  exact absurd z1 (by omega)
                · have z1' : (55296 : Int) ≤ (v : Int) := by omega
                  by_cases z2 : v < 57344
                  · have z2' : (v : Int) < 57344 := by omega
                    have hF : validD l = false := HB.out (.inr (.inr (.inr (by unfold badV; omega)))); have hF2 := Lib.hid hF; clear hF HB HG; go_wp2
                    go_ret2
                    exact ⟨.inr ⟨hF2.out, rfl⟩, hbel⟩
                  · have z2' : ¬ (v : Int) < 57344 := by omega
                    by_cases z3 : 1114111 < v
                    · have z3' : (1114111 : Int) < (v : Int) := by omega
                      have hF : validD l = false := HB.out (.inr (.inr (.inr (by unfold badV; omega)))); have hF2 := Lib.hid hF; clear hF HB HG; go_wp2
                      go_ret2
                      exact ⟨.inr ⟨hF2.out, rfl⟩, hbel⟩
                    · have z3' : ¬ (1114111 : Int) < (v : Int) := by omega
                      obtain ⟨g1, g2, g3⟩ := HG.out (by unfold badV; omega); have HG2 := Lib.hid (And.intro g1 g2); clear g1 g2 HB HG
                      go_wp2_with (at_builtin; refine wpList_app intsRow rfl (.tmp 91) (.tmp 93) rfl rfl rfl (ho.alloc _) (Rd.fresh _ _ 1 1 _ rfl) ?_ ?_ ?_ ?_ ?_)
                      any_goals first | rfl | (unfold maxLen; omega) | omega | (intro u hu; simp at hu; subst hu; rfl) | (simp; omega)
                      intro v9 w9 o9 g9 b9; have hbel9 := (hbel.alloc hbel.size _).trans b9
                      have o9' : w9.ownsRow w.heap.size 3 1 v9 (q + 1) ((acc ++ [(v : Int)]).map ivr) := by
                        rw [List.map_append, List.map_cons, List.map_nil]; exact o9
                      clear o9 g9 b9 ho hbel; go_wp2
                      go_roundw
                      case rel => exact ⟨i + (3 + 1), q + 1, acc ++ [(v : Int)], by go_num, o9', g3, by omega, hbel9, HG2⟩
                      case measure => simp [Go.RowKit.intOf]; omega
      · have hF : validD l = false := HB.out (.inl hn); have hF2 := Lib.hid hF; clear hF HB HG hn; have y0 : ¬ (c : Int) < 128 := by omega
        rcases x1 with x1 | x1
        · have y1 : ¬ (194 : Int) ≤ (c : Int) := by omega
          have y2 : ¬ (224 : Int) ≤ (c : Int) := by omega
          have y3 : ¬ (240 : Int) ≤ (c : Int) := by omega
          go_wp2
          go_ret2
          exact ⟨.inr ⟨hF2.out, rfl⟩, hbel⟩
        · have y1 : (194 : Int) ≤ (c : Int) := by omega
          have y1b : ¬ (c : Int) < 224 := by omega
          have y2 : (224 : Int) ≤ (c : Int) := by omega
          have y2b : ¬ (c : Int) < 240 := by omega
          have y3 : (240 : Int) ≤ (c : Int) := by omega
          have y4 : ¬ (c : Int) < 245 := by omega
          go_wp2
          go_ret2
          exact ⟨.inr ⟨hF2.out, rfl⟩, hbel⟩
    · have hi1' : ¬ (i : Int) < (s.size : Int) := by omega
      obtain ⟨g1, g2⟩ := HS.out; have he : l.drop i = [] := List.drop_eq_nil_of_le (by rw [HLEN.out]; omega); rw [he, validD_nil] at g2; rw [he, rns_nil, List.append_nil] at g1; subst g1; have hV := Lib.hid g2.symm; clear g2 HS; go_wp2
      go_ret2
      exact ⟨.inl ⟨hV.out, _, q, rfl, ho⟩, hbel⟩
end Go.Proofs.YtngkolcpbgibcaaGreatDoor
namespace Go.Proofs.YtngkolcpbgibcaaGreatDoor
open Go.RowKit Go.Lib
set_option maxRecDepth 20000 in
set_option maxHeartbeats 8000000 in
theorem pieces_out {w : World} (HFn : FnT w) (HTn : Tens w) (HVl : Val w) {l : List UInt8} {p n : Nat} (hs : l.length ≤ 100000000) (h : validD l = false ∨ 300 < (rns l).length) :
    Calls Tryz.prog 7 #[.string ⟨l.toArray⟩, .int .u8 p, .int .u8 n] w fun e W => e = .returned (.bool true) ∧ Below w.heap.size w W := by
  have HK := Lib.hid (fun (W : World) (hb : Below w.heap.size w W) => known_any (HFn.below hb) (HTn.below hb) (HVl.below hb)); have HRR := Lib.hid (fun W : World => bRunes_any (w := W) ⟨l.toArray⟩ (by simpa [ByteArray.size] using hs)); have HB := Lib.hid (BX.start w); clear HFn HTn HVl; go_enter Tryz.func7, Tryz.ntmps7
  repeat' (first | go_values | go_skip | go_guarded | go_step | go_upon)
  refine (HK.out _ HB.out.bel).mono ?_; rintro e W1 ⟨rfl, hb⟩; have HB := Lib.hid (HB.out.call hb); clear hb; dsimp only
  repeat' (first | go_values | go_skip | go_guarded | go_step | go_upon)
  refine (HRR.out _).mono ?_; rintro e W1 ⟨hg, hb⟩; have HB := Lib.hid (HB.out.call hb); clear hb HRR HK
  rcases hg with ⟨hv, v, n', rfl, hown⟩ | ⟨hv, rfl⟩
  · obtain ⟨A', c', rfl, -, -, hrd⟩ := own_form hown
    have hlen : 300 < n' := by
      have h1 : (rns l).length = n' * 1 := by simpa using hrd.len
      have h2 := h.resolve_left (by simp at hv ⊢; exact hv); omega
    have h3 : (300 : Int) < (n' : Int) := by omega
    clear hrd hown hv h hlen; dsimp only
    repeat' (first | go_values | go_skip | go_guarded | go_step | go_upon)
    go_ret; exact ⟨rfl, HB.out.bel⟩
  · clear hv h; dsimp only
    repeat' (first | go_values | go_skip | go_guarded | go_step | go_upon)
    go_ret; exact ⟨rfl, HB.out.bel⟩
theorem piecesLaw {w : World} (HF : FnT w) (HT : Tens w) (HV : Val w) (l : List UInt8) (p n : Nat) (hs : l.length ≤ 1048576) (hp : p ≤ 255) (hn : n ≤ 255) :
    Calls Tryz.prog 7 #[.string ⟨l.toArray⟩, .int .u8 p, .int .u8 n] w fun e W => e = .returned (.bool true) ∧ Below w.heap.size w W := by
  by_cases hv : validD l = true
  · by_cases hR : (rns l).length ≤ 300
    · have hk : p % ((rns l).length + 1) ≤ (rns l).length := by have := Nat.mod_lt p (show 0 < (rns l).length + 1 by omega); omega
      have g : ∀ m : Nat, m ≤ 1000 → PG (.num m 0) := fun m hm => pg_num (gd_small (by omega) (by omega)); obtain ⟨a1, a2⟩ := take_bh (p % ((rns l).length + 1)) l hv; obtain ⟨b2, b1⟩ := at_bh (p % ((rns l).length + 1)) l hv; have hle := len_le hv; have ul := ue_few hv hR; have ua : uE (l.take (bhN l (p % ((rns l).length + 1)))) = 0 := ue_few a1 (by rw [a2, List.length_take]; omega); have ub : uE (l.drop (bhN l (p % ((rns l).length + 1)))) = 0 := ue_few b1 (by rw [b2, List.length_drop]; omega)
      have hl : ∀ {t : List UInt8}, validD t = true → t.length ≤ 100000000 → ∀ m, wrdX (.str t) = .ok m → validD m = true ∧ m.length ≤ 100000000 := fun h1 h2 m e => by
        injection e with e; subst e; exact ⟨h1, h2⟩
      have la : (l.take (bhN l (p % ((rns l).length + 1)))).length ≤ 100000 := by rw [List.length_take]; omega
      have lb : (l.drop (bhN l (p % ((rns l).length + 1)))).length ≤ 100000 := by rw [List.length_drop]; omega
      have pl := pg_s ul (l := l) (by omega); have pa := pg_s ua (by omega); have pb := pg_s ub (by omega); refine pieces_good HF HT HV (R := (rns l).length) (k := p % ((rns l).length + 1)) (A1 := l.take (bhN l (p % ((rns l).length + 1)))) (B1 := l.drop (bhN l (p % ((rns l).length + 1)))) (C1 := pcL l (p % ((rns l).length + 1)) n) (by omega) hn hp hR rfl (fun W => ?_) (List.take_append_drop _ _) (fun W hW q hq => ?_) (fun W hW q hq => ?_) (fun W hW q hq => ?_) (fun W hW q hq => ?_) (fun W hW q hq => ?_) (fun W hW => ?_)
      · refine (bRunes_any (w := W) ⟨l.toArray⟩ (by simp [ByteArray.size]; omega)).mono ?_; rintro e W' ⟨hg, hb⟩
        rcases hg with ⟨_, v, n', rfl, hown⟩ | ⟨hv2, rfl⟩
        · obtain ⟨A', c', rfl, -, -, hrd⟩ := own_form hown; have h1 : (rns l).length = n' * 1 := by simpa using hrd.len
          have h2 : (rns l).length = n' := by omega
          rw [h2]; exact ⟨A', c', rfl, hb⟩
        · have h3 : validD l = false := hv2; rw [hv] at h3
          cases h3
      · rw [← end_15 hv hR]; exact ap_end (HF.below hW) (HT.below hW) (HV.below hW) (.inl rfl) hq pl (g _ (by omega)) (hl hv (by omega))
      · rw [← end_16 hv hR _ hk]; exact ap_end (HF.below hW) (HT.below hW) (HV.below hW) (.inr rfl) hq pl (g _ (by omega)) (hl hv (by omega))
      · rw [← mid_17 hv hR]; exact ap_17 (HF.below hW) (HT.below hW) (HV.below hW) hq pl (g (_ + 1) (by omega)) (g _ (by omega)) (hl hv (by omega))
      · rw [← end_15b hv hR]; exact ap_end (HF.below hW) (HT.below hW) (HV.below hW) (.inl rfl) hq pb (g _ (by omega)) (hl b1 (by omega))
      · have := ap_18 (HF.below hW) (HT.below hW) (HV.below hW) (c := 2) hq (ag2 pa pb) (by kernel_rfl); have e : conN (wsX (pickL [0, 1, 2, 3] [(false, [VX.str (l.take (bhN l (p % ((rns l).length + 1))))]), (false, [VX.str (l.drop (bhN l (p % ((rns l).length + 1))))])])) = .str l := con_two (List.take_append_drop _ _) (by omega) ul; rw [e] at this; exact this
      · have := fBinary_any (w := W) (HT.below hW) (HV.below hW) (op := 6) ua ub (x := .str (l.take (bhN l (p % ((rns l).length + 1))))) (y := .str (l.drop (bhN l (p % ((rns l).length + 1))))) (by show List.length _ ≤ _; omega) (by show List.length _ ≤ _; omega) pa.2 pb.2; have e : funBin 6 (.str (l.take (bhN l (p % ((rns l).length + 1))))) (.str (l.drop (bhN l (p % ((rns l).length + 1))))) = .str l := con_two (List.take_append_drop _ _) (by omega) ul; rw [e] at this; exact this
    · exact pieces_out HF HT HV (by omega) (.inr (by omega))
  · exact pieces_out HF HT HV (by omega) (.inl (by simpa using hv))
end Go.Proofs.YtngkolcpbgibcaaGreatDoor
