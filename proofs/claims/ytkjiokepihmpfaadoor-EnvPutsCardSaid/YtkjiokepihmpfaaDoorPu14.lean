/- env.put of what may be put, env.copyNames of nil, env.Put, by their contracts. utf8.ValidString keeps its contract; a row in order. -/
import Derived.Test.YtkjiokepihmpfaaDoorCt14
set_option linter.unusedVariables false
set_option linter.unusedSimpArgs false
namespace Go.Proofs.YtkjiokepihmpfaaDoor
open Go.RowKit

def advS (A : Option Addr) (c k : Nat) : Option Addr := if c = k then A else A.map fun q => q.add (k * 9)
theorem run_loS (w : World) (A : Option Addr) (n c k : Nat) (hk : k ≤ n) : (Instr.sliceAt 25 (.slice A n c) (some (.int .i64 (k : Int))) none none).run Tryd.prog w = .ok (.slice (advS A c k) (n - k) (c - k)) w := by
  unfold advS
  have hu : Tryd.prog.underlying 25 = some (.slice (Tryd.prog.elem 25)) := by kernel_rfl
  rw [run_sliceAt_slice _ _ _ _ _ _ hu, run_slice_l _ _ _ _ _ hu .i64 (k : Int) (by omega) (by omega)]
  have hs : (sizeOf (Tryd.prog.elem 25)).run Tryd.prog w = .ok 9 w := by kernel_rfl
  rw [hs]
  simp [Result.andThen, sliced]
theorem run_hiS (w : World) (A : Option Addr) (n c k : Nat) (hk : k ≤ c) : (Instr.sliceAt 25 (.slice A n c) none (some (.int .i64 (k : Int))) none).run Tryd.prog w = .ok (.slice A k c) w := by
  have hu : Tryd.prog.underlying 25 = some (.slice (Tryd.prog.elem 25)) := by kernel_rfl
  rw [run_sliceAt_slice _ _ _ _ _ _ hu, run_slice_h _ _ _ _ _ hu .i64 (k : Int) (by omega) (by omega)]
  have hs : (sizeOf (Tryd.prog.elem 25)).run Tryd.prog w = .ok 9 w := by kernel_rfl
  rw [hs]
  cases A with
  | none => simp [Result.andThen, sliced]
  | some q =>
    have e : q.add 0 = q := by unfold Addr.add; split <;> simp_all
    simp [Result.andThen, sliced, e]
theorem rd_advS {w : World} {B n c k : Nat} {A : Option Addr} {xs : List Value} (h : Rd w B 9 A n xs) (hk : k ≤ n) (hn : n ≤ c) : Rd w B 9 (advS A c k) (n - k) (xs.drop (k * 9)) := by
  have hl := h.len
  have := h.cut (i := k) (j := n) (cap := c) hk (Nat.le_refl _) hn
  rwa [List.take_of_length_le (by rw [List.length_drop, hl, ← Nat.sub_mul]; exact Nat.le_refl _)] at this
theorem rd_takS {w : World} {B n k : Nat} {A : Option Addr} {xs : List Value} (h : Rd w B 9 A n xs) (hk : k ≤ n) : Rd w B 9 A k (xs.take (k * 9)) := by
  refine ⟨by rw [List.length_take, h.len]; exact Nat.min_eq_left (Nat.mul_le_mul_right _ hk), fun hn => ?_⟩
  obtain ⟨a, e, hb, hc⟩ := h.at_ (by omega)
  refine ⟨a, e, hb, fun j u hu => hc j u ?_⟩
  rw [List.getElem?_take] at hu
  split at hu
  · exact hu
  · cases hu
section
variable {o : Oper} {a : Act} {W : World} {K : Act → World → Prop} {Q : Exit → Act → World → Prop} {S : World → Prop} {F : World → World → Prop} {R : Value → World → Prop} {t : TypeId} {X Y v : Value}
theorem stop_lo {t : TypeId} (x lo : Operand) (ho : o.op = .slice t x (some lo) none none) (h : Hid (o.wp Tryd.prog a W K Q)) : o.wp Tryd.prog a W K Q := h.out
theorem wp_lo (x lo : Operand) (ho : o.op = .slice t x (some lo) none none) (hx : a.eval x = X) (hl : a.eval lo = Y) (hrun : (Instr.sliceAt t X (some Y) none none).run Tryd.prog W = .ok v W) (h : K (a.put o.dst v) W) : o.wp Tryd.prog a W K Q := by
  unfold Oper.wp
  simp [execOp, ho, hx, hl, hrun, Result.andThen]
  exact h
theorem lands_lo (x lo : Operand) (ho : o.op = .slice t x (some lo) none none) (hx : a.eval x = X) (hl : a.eval lo = Y) (hrun : (Instr.sliceAt t X (some Y) none none).run Tryd.prog W = .ok v W) (h : R v W ∧ S W ∧ F W W) : Lands Tryd.prog S F R W ((execOp a.eval o).run Tryd.prog W) := by
  simp [execOp, ho, hx, hl, hrun, Result.andThen]
  exact h
theorem lands_hi (x hi : Operand) (ho : o.op = .slice t x none (some hi) none) (hx : a.eval x = X) (hl : a.eval hi = Y) (hrun : (Instr.sliceAt t X none (some Y) none).run Tryd.prog W = .ok v W) (h : R v W ∧ S W ∧ F W W) : Lands Tryd.prog S F R W ((execOp a.eval o).run Tryd.prog W) := by
  simp [execOp, ho, hx, hl, hrun, Result.andThen]
  exact h
end
def f3 {α : Type} (x y z : α) : Nat → α
  | 0 => x
  | 1 => y
  | _ => z
theorem cat3 (L0 L1 L2 : List Sl) : cat (f3 L0 L1 L2) 3 = L0 ++ (L1 ++ L2) := by
  simp [cat, List.range, List.range.loop, f3]
theorem concat3 {w : World} {h B : Nat} {A0 A1 A2 : Option Addr} {c0 c1 c2 n0 n1 n2 : Nat} {L0 L1 L2 : List Sl} (hk : Bk w h 25 ([.slice A0 n0 c0, .slice A1 n1 c1, .slice A2 n2 c2] : List Value).toArray)
    (e0 : n0 = L0.length) (e1 : n1 = L1.length) (e2 : n2 = L2.length) (h0 : Rd w B 9 A0 n0 (rwc L0)) (h1 : Rd w B 9 A1 n1 (rwc L1)) (h2 : Rd w B 9 A2 n2 (rwc L2)) (hB : B ≤ w.heap.size) (hl : n0 + (n1 + n2) ≤ 1000000) :
    Calls Tryd.prog 51 #[.slice (some ⟨h, 0, none⟩) 3 3] w fun e W => ∃ v, e = .returned v ∧ W.ownsRow w.heap.size 44 9 v (L0 ++ (L1 ++ L2)).length (rwc (L0 ++ (L1 ++ L2))) ∧ Below w.heap.size w W := by
  subst e0 e1 e2
  have := concat_any (w := w) (h := h) (m := 3) (B := B) (A := f3 A0 A1 A2) (c := f3 c0 c1 c2) (L := f3 L0 L1 L2) (fun i hi => by
    rw [hk.cell]
    match i, hi with
    | 0, _ => rfl
    | 1, _ => rfl
    | 2, _ => rfl) hk.lt (fun i hi => by
    match i, hi with
    | 0, _ => exact h0
    | 1, _ => exact h1
    | 2, _ => exact h2) hB (by rw [cat3]; simpa using hl) (by decide)
  rwa [cat3] at this
theorem copy_nil {w : World} {c : Nat} : Calls Tryd.prog 25 #[.slice none 0 c] w fun e W => e = .returned (.slice none 0 0) ∧ W = w := by
  go_enter Tryd.func25, Tryd.ntmps25
  go_wp2
  go_loopw [3, 8] (fun v i wr => v = .slice none 0 0 ∧ i = .int .i64 0 ∧ wr = w) (fun _ _ _ => 0)
  case atStart => exact ⟨rfl, rfl, rfl⟩
  case round =>
    obtain ⟨rfl, rfl, rfl⟩ := hrel
    go_wp2
    go_ret
    exact ⟨rfl, rfl⟩
/-- A row with a value put, from the place of the value on. -/
theorem putR_eq {L : List Sl} {p : Pl} {v : Va} {k : Nat} {fd : Bool} {M : List Sl} (hk : k = kth p L) (hf : fd = hasP p L) (hM : M = if v.k = 0 then [] else [⟨p, v⟩]) : putR L p v = L.take k ++ (M ++ L.drop (if fd then k + 1 else k)) := by
  subst hk hf hM
  rfl
theorem has_lt {L : List Sl} {p : Pl} (h : hasP p L = true) : kth p L < L.length := by
  unfold hasP at h
  split at h
  · rename_i x hx
    exact (List.getElem?_eq_some_iff.1 hx).1
  · cases h
theorem rwc_1 (x : Sl) : rwc [x] = slc x := by simp [rwc]
set_option maxRecDepth 20000 in
set_option maxHeartbeats 4000000 in
theorem put_any14 {w : World} (HV : Val w) {L : List Sl} {B c : Nat} {A : Option Addr} (p : Pl) (v : Va) (N : Int) {An : Option Addr} {nn cn : Nat} (h : Rd w B 9 A L.length (rwc L)) (hB : B ≤ w.heap.size) (hl : L.length ≤ 100000) (hc : L.length ≤ c) (hU : Up L) (ht : v.t.size ≤ 140737488355328) (hp : gdP p N = true) (hv : ckW v = 0) :
    Calls Tryd.prog 24 #[.agg (enc N (.slice A L.length c) (.slice An nn cn)).toArray, .agg (plc p).toArray, .agg (vac v).toArray] w fun e W => ∃ u, e = .returned u ∧ W.ownsRow w.heap.size 44 9 u (putR L p v).length (rwc (putR L p v)) ∧ Below w.heap.size w W := by
  have HI : Hid (∀ W : World, Calls Tryd.prog 26 #[.agg (plc p).toArray, .int .i64 N] W fun e W' => e = .returned (.bool true) ∧ Below W.heap.size W W') := Lib.hid fun W => by have := isPl_any (w := W) p N; rwa [hp] at this
  have HC : Hid (∀ W : World, Below w.heap.size w W → Calls Tryd.prog 14 #[.agg (vac v).toArray] W fun e W' => e = .returned (.int .i64 0) ∧ Below W.heap.size W W') := Lib.hid fun W hb => by
    have := check_v (HV.below hb) v.k v.m v.d v.t v.b v.e ht
    rwa [show ckV v.k v.m v.d v.t v.b v.e = 0 from hv] at this
  have HS : Hid (∀ W : World, Below w.heap.size w W → Calls Tryd.prog 27 #[.slice A L.length c, .agg (plc p).toArray] W fun e W' => e = .returned (.tuple #[.int .i64 (kth p L), .bool (hasP p L)]) ∧ Below W.heap.size W W') := Lib.hid fun W hb => seek_any p (h.belowMono hb hB) (Nat.le_trans hB hb.size) hl hc hU
  have HR := Lib.hid (show ∀ W : World, Below w.heap.size w W → Rd W B 9 A L.length (rwc L) from fun W hb => h.belowMono hb hB)
  have HKL := Lib.hid (show hasP p L = true → kth p L < L.length from has_lt)
  have HKE := Lib.hid (kth_le p L)
  obtain ⟨k, hk⟩ : ∃ k, k = kth p L := ⟨_, rfl⟩
  obtain ⟨fd, hfd⟩ : ∃ fd, fd = hasP p L := ⟨_, rfl⟩
  obtain ⟨n, hn⟩ : ∃ n, n = L.length := ⟨_, rfl⟩
  have HE := Lib.hid (And.intro hk (And.intro hfd hn))
  rw [← hk, ← hfd] at HS
  rw [← hk, ← hfd] at HKL
  rw [← hk] at HKE
  rw [← hn] at HS HR HKL HKE hl hc ⊢
  have HKN := HKE
  have HKC := Lib.hid (Nat.le_trans HKE.out hc)
  have HNC := Lib.hid hc
  have HL := Lib.hid hl
  have HBB := Lib.hid hB
  clear h hU hk hfd hn HV hp hv hl hc hB HKE
  have HB : Hid (BX w [] w) := Lib.hid (BX.start w)
  go_enter Tryd.func24, Tryd.ntmps24
  repeat' (first | ((with_reducible show Oper.wp _ _ _ _ _ _); (first | (with_reducible refine is_bx 40 _ rfl ?_; refine bx_pl HB _ rfl rfl ?_) | (with_reducible refine is_bx 32 _ rfl ?_; refine bx_va HB _ rfl rfl ?_) | (with_reducible refine is_bx 28 _ rfl ?_; refine bx_en HB _ rfl rfl ?_) | (with_reducible refine is_bx 44 _ rfl ?_; refine bx_sl HB _ rfl rfl ?_)); clear HB; (first | (have _t : Nat := g10; clear _t; intro g11 W HB) | (have _t : Nat := g9; clear _t; intro g10 W HB) | (have _t : Nat := g8; clear _t; intro g9 W HB) | (have _t : Nat := g7; clear _t; intro g8 W HB) | (have _t : Nat := g6; clear _t; intro g7 W HB) | (have _t : Nat := g5; clear _t; intro g6 W HB) | (have _t : Nat := g4; clear _t; intro g5 W HB) | (have _t : Nat := g3; clear _t; intro g4 W HB) | (have _t : Nat := g2; clear _t; intro g3 W HB) | (have _t : Nat := g1; clear _t; intro g2 W HB) | (have _t : Nat := g0; clear _t; intro g1 W HB) | intro g0 W HB); go_simp) | ((with_reducible show Oper.wp _ _ _ _ _ _); (first | (with_reducible refine is_ld 40 _ rfl ?_; (first | refine ld_pl 0 HB rfl _ rfl rfl ?_ | refine ld_pl 1 HB rfl _ rfl rfl ?_ | refine ld_pl 2 HB rfl _ rfl rfl ?_ | refine ld_pl 3 HB rfl _ rfl rfl ?_ | refine ld_pl 4 HB rfl _ rfl rfl ?_ | refine ld_pl 5 HB rfl _ rfl rfl ?_)) | (with_reducible refine is_ld 32 _ rfl ?_; (first | refine ld_va 0 HB rfl _ rfl rfl ?_ | refine ld_va 1 HB rfl _ rfl rfl ?_ | refine ld_va 2 HB rfl _ rfl rfl ?_ | refine ld_va 3 HB rfl _ rfl rfl ?_ | refine ld_va 4 HB rfl _ rfl rfl ?_ | refine ld_va 5 HB rfl _ rfl rfl ?_)) | (with_reducible refine is_ld 28 _ rfl ?_; (first | refine ld_en 0 HB rfl _ rfl rfl ?_ | refine ld_en 1 HB rfl _ rfl rfl ?_ | refine ld_en 2 HB rfl _ rfl rfl ?_ | refine ld_en 3 HB rfl _ rfl rfl ?_ | refine ld_en 4 HB rfl _ rfl rfl ?_ | refine ld_en 5 HB rfl _ rfl rfl ?_)) | (with_reducible refine is_ld 44 _ rfl ?_; (first | refine ld_sl 0 HB rfl _ rfl rfl ?_ | refine ld_sl 1 HB rfl _ rfl rfl ?_ | refine ld_sl 2 HB rfl _ rfl rfl ?_ | refine ld_sl 3 HB rfl _ rfl rfl ?_ | refine ld_sl 4 HB rfl _ rfl rfl ?_ | refine ld_sl 5 HB rfl _ rfl rfl ?_))); go_simp) | ((with_reducible show Oper.wp _ _ _ _ _ _); (first | (with_reducible refine is_ld 3 _ rfl ?_; (first | refine lf_int 0 HB rfl _ rfl rfl rfl ?_ | refine lf_int 1 HB rfl _ rfl rfl rfl ?_ | refine lf_int 2 HB rfl _ rfl rfl rfl ?_ | refine lf_int 3 HB rfl _ rfl rfl rfl ?_ | refine lf_int 4 HB rfl _ rfl rfl rfl ?_ | refine lf_int 5 HB rfl _ rfl rfl rfl ?_)) | (with_reducible refine is_ld 25 _ rfl ?_; (first | refine lf_ss 0 HB rfl _ rfl rfl rfl ?_ | refine lf_ss 1 HB rfl _ rfl rfl rfl ?_ | refine lf_ss 2 HB rfl _ rfl rfl rfl ?_ | refine lf_ss 3 HB rfl _ rfl rfl rfl ?_ | refine lf_ss 4 HB rfl _ rfl rfl rfl ?_ | refine lf_ss 5 HB rfl _ rfl rfl rfl ?_)) | (with_reducible refine is_ld 26 _ rfl ?_; (first | refine lf_es 0 HB rfl _ rfl rfl rfl ?_ | refine lf_es 1 HB rfl _ rfl rfl rfl ?_ | refine lf_es 2 HB rfl _ rfl rfl rfl ?_ | refine lf_es 3 HB rfl _ rfl rfl rfl ?_ | refine lf_es 4 HB rfl _ rfl rfl rfl ?_ | refine lf_es 5 HB rfl _ rfl rfl rfl ?_))); go_simp) | go_values | go_skip | go_guarded | go_step | go_upon)
  refine (HI.out _).mono ?_
  rintro e W1 ⟨rfl, hb⟩
  replace HB := Lib.hid (HB.out.call hb)
  clear hb
  dsimp only
  repeat' (first | ((with_reducible show Oper.wp _ _ _ _ _ _); (first | (with_reducible refine is_bx 40 _ rfl ?_; refine bx_pl HB _ rfl rfl ?_) | (with_reducible refine is_bx 32 _ rfl ?_; refine bx_va HB _ rfl rfl ?_) | (with_reducible refine is_bx 28 _ rfl ?_; refine bx_en HB _ rfl rfl ?_) | (with_reducible refine is_bx 44 _ rfl ?_; refine bx_sl HB _ rfl rfl ?_)); clear HB; (first | (have _t : Nat := g10; clear _t; intro g11 W HB) | (have _t : Nat := g9; clear _t; intro g10 W HB) | (have _t : Nat := g8; clear _t; intro g9 W HB) | (have _t : Nat := g7; clear _t; intro g8 W HB) | (have _t : Nat := g6; clear _t; intro g7 W HB) | (have _t : Nat := g5; clear _t; intro g6 W HB) | (have _t : Nat := g4; clear _t; intro g5 W HB) | (have _t : Nat := g3; clear _t; intro g4 W HB) | (have _t : Nat := g2; clear _t; intro g3 W HB) | (have _t : Nat := g1; clear _t; intro g2 W HB) | (have _t : Nat := g0; clear _t; intro g1 W HB) | intro g0 W HB); go_simp) | ((with_reducible show Oper.wp _ _ _ _ _ _); (first | (with_reducible refine is_ld 40 _ rfl ?_; (first | refine ld_pl 0 HB rfl _ rfl rfl ?_ | refine ld_pl 1 HB rfl _ rfl rfl ?_ | refine ld_pl 2 HB rfl _ rfl rfl ?_ | refine ld_pl 3 HB rfl _ rfl rfl ?_ | refine ld_pl 4 HB rfl _ rfl rfl ?_ | refine ld_pl 5 HB rfl _ rfl rfl ?_)) | (with_reducible refine is_ld 32 _ rfl ?_; (first | refine ld_va 0 HB rfl _ rfl rfl ?_ | refine ld_va 1 HB rfl _ rfl rfl ?_ | refine ld_va 2 HB rfl _ rfl rfl ?_ | refine ld_va 3 HB rfl _ rfl rfl ?_ | refine ld_va 4 HB rfl _ rfl rfl ?_ | refine ld_va 5 HB rfl _ rfl rfl ?_)) | (with_reducible refine is_ld 28 _ rfl ?_; (first | refine ld_en 0 HB rfl _ rfl rfl ?_ | refine ld_en 1 HB rfl _ rfl rfl ?_ | refine ld_en 2 HB rfl _ rfl rfl ?_ | refine ld_en 3 HB rfl _ rfl rfl ?_ | refine ld_en 4 HB rfl _ rfl rfl ?_ | refine ld_en 5 HB rfl _ rfl rfl ?_)) | (with_reducible refine is_ld 44 _ rfl ?_; (first | refine ld_sl 0 HB rfl _ rfl rfl ?_ | refine ld_sl 1 HB rfl _ rfl rfl ?_ | refine ld_sl 2 HB rfl _ rfl rfl ?_ | refine ld_sl 3 HB rfl _ rfl rfl ?_ | refine ld_sl 4 HB rfl _ rfl rfl ?_ | refine ld_sl 5 HB rfl _ rfl rfl ?_))); go_simp) | ((with_reducible show Oper.wp _ _ _ _ _ _); (first | (with_reducible refine is_ld 3 _ rfl ?_; (first | refine lf_int 0 HB rfl _ rfl rfl rfl ?_ | refine lf_int 1 HB rfl _ rfl rfl rfl ?_ | refine lf_int 2 HB rfl _ rfl rfl rfl ?_ | refine lf_int 3 HB rfl _ rfl rfl rfl ?_ | refine lf_int 4 HB rfl _ rfl rfl rfl ?_ | refine lf_int 5 HB rfl _ rfl rfl rfl ?_)) | (with_reducible refine is_ld 25 _ rfl ?_; (first | refine lf_ss 0 HB rfl _ rfl rfl rfl ?_ | refine lf_ss 1 HB rfl _ rfl rfl rfl ?_ | refine lf_ss 2 HB rfl _ rfl rfl rfl ?_ | refine lf_ss 3 HB rfl _ rfl rfl rfl ?_ | refine lf_ss 4 HB rfl _ rfl rfl rfl ?_ | refine lf_ss 5 HB rfl _ rfl rfl rfl ?_)) | (with_reducible refine is_ld 26 _ rfl ?_; (first | refine lf_es 0 HB rfl _ rfl rfl rfl ?_ | refine lf_es 1 HB rfl _ rfl rfl rfl ?_ | refine lf_es 2 HB rfl _ rfl rfl rfl ?_ | refine lf_es 3 HB rfl _ rfl rfl rfl ?_ | refine lf_es 4 HB rfl _ rfl rfl rfl ?_ | refine lf_es 5 HB rfl _ rfl rfl rfl ?_))); go_simp) | go_values | go_skip | go_guarded | go_step | go_upon)
  refine (HC.out _ HB.out.bel).mono ?_
  rintro e W1 ⟨rfl, hb⟩
  replace HB := Lib.hid (HB.out.call hb)
  clear hb
  dsimp only
  by_cases hk0 : v.k = 0
  · have fk : (v.k != 0) = false := by rw [hk0]; rfl
    repeat' (first | ((with_reducible show Oper.wp _ _ _ _ _ _); (first | (with_reducible refine is_ld 40 _ rfl ?_; (first | refine ld_pl 0 HB rfl _ rfl rfl ?_ | refine ld_pl 1 HB rfl _ rfl rfl ?_ | refine ld_pl 2 HB rfl _ rfl rfl ?_ | refine ld_pl 3 HB rfl _ rfl rfl ?_ | refine ld_pl 4 HB rfl _ rfl rfl ?_ | refine ld_pl 5 HB rfl _ rfl rfl ?_)) | (with_reducible refine is_ld 32 _ rfl ?_; (first | refine ld_va 0 HB rfl _ rfl rfl ?_ | refine ld_va 1 HB rfl _ rfl rfl ?_ | refine ld_va 2 HB rfl _ rfl rfl ?_ | refine ld_va 3 HB rfl _ rfl rfl ?_ | refine ld_va 4 HB rfl _ rfl rfl ?_ | refine ld_va 5 HB rfl _ rfl rfl ?_)) | (with_reducible refine is_ld 28 _ rfl ?_; (first | refine ld_en 0 HB rfl _ rfl rfl ?_ | refine ld_en 1 HB rfl _ rfl rfl ?_ | refine ld_en 2 HB rfl _ rfl rfl ?_ | refine ld_en 3 HB rfl _ rfl rfl ?_ | refine ld_en 4 HB rfl _ rfl rfl ?_ | refine ld_en 5 HB rfl _ rfl rfl ?_)) | (with_reducible refine is_ld 44 _ rfl ?_; (first | refine ld_sl 0 HB rfl _ rfl rfl ?_ | refine ld_sl 1 HB rfl _ rfl rfl ?_ | refine ld_sl 2 HB rfl _ rfl rfl ?_ | refine ld_sl 3 HB rfl _ rfl rfl ?_ | refine ld_sl 4 HB rfl _ rfl rfl ?_ | refine ld_sl 5 HB rfl _ rfl rfl ?_))); go_simp) | ((with_reducible show Oper.wp _ _ _ _ _ _); (first | (with_reducible refine is_ld 3 _ rfl ?_; (first | refine lf_int 0 HB rfl _ rfl rfl rfl ?_ | refine lf_int 1 HB rfl _ rfl rfl rfl ?_ | refine lf_int 2 HB rfl _ rfl rfl rfl ?_ | refine lf_int 3 HB rfl _ rfl rfl rfl ?_ | refine lf_int 4 HB rfl _ rfl rfl rfl ?_ | refine lf_int 5 HB rfl _ rfl rfl rfl ?_)) | (with_reducible refine is_ld 25 _ rfl ?_; (first | refine lf_ss 0 HB rfl _ rfl rfl rfl ?_ | refine lf_ss 1 HB rfl _ rfl rfl rfl ?_ | refine lf_ss 2 HB rfl _ rfl rfl rfl ?_ | refine lf_ss 3 HB rfl _ rfl rfl rfl ?_ | refine lf_ss 4 HB rfl _ rfl rfl rfl ?_ | refine lf_ss 5 HB rfl _ rfl rfl rfl ?_)) | (with_reducible refine is_ld 26 _ rfl ?_; (first | refine lf_es 0 HB rfl _ rfl rfl rfl ?_ | refine lf_es 1 HB rfl _ rfl rfl rfl ?_ | refine lf_es 2 HB rfl _ rfl rfl rfl ?_ | refine lf_es 3 HB rfl _ rfl rfl rfl ?_ | refine lf_es 4 HB rfl _ rfl rfl rfl ?_ | refine lf_es 5 HB rfl _ rfl rfl rfl ?_))); go_simp) | go_values | go_skip | go_guarded | go_step | go_upon)
    refine (HS.out _ HB.out.bel).mono ?_
    rintro e W1 ⟨rfl, hb⟩
    replace HB := Lib.hid (HB.out.call hb)
    clear hb
    dsimp only
    repeat' (first | go_values | go_skip | go_guarded | go_step | go_upon)
    obtain ⟨W0, hW⟩ : ∃ W0, W0 = W1 := ⟨_, rfl⟩
    subst hW
    have HKe := Lib.hid (HB.out.get (i := 2) rfl)
    refine wp_region_phases (S := (fun _ W => Below W0.heap.size W0 W)) (E := (fun W W' => Below W.heap.size W W')) [] [(3, Is (.pointer (some ⟨g0, 0, none⟩))), (4, Is (.pointer (some ⟨g1, 0, none⟩))), (5, Is (.pointer (some ⟨g2, 0, none⟩))), (7, Is (.slice none 0 0)), (8, Is (.int .i64 k)), (9, Is (.bool fd))] [(39, Is (.pointer (some ⟨g0, 1, none⟩))), (40, Is (.slice A n c)), (41, Is (.int .i64 k)), (42, Is (.slice A k c)), (43, Is (.pointer (some ⟨g0, 1, none⟩))), (44, Is (.slice A n c)), (45, Is (.int .i64 k)), (46, Is (.slice (advS A c k) (n - k) (c - k))), (10, Is (.slice A k c)), (11, Is (.slice (advS A c k) (n - k) (c - k)))]
      [.op [3] none, .op [39] none, .op [8] none, .op [40, 41] none, .op [3] none, .op [43] none, .op [8] none, .op [44, 45] none, .op [42] none, .op [46] none] (by as_aux_lemma => kernel_rfl) ?_ ?_ ?_ ?_ ?_ ⟨stable_is _ _, stable_is _ _, stable_is _ _, stable_is _ _, stable_is _ _, stable_is _ _, stable_is _ _, stable_is _ _, stable_is _ _, stable_is _ _, stable_is _ _, stable_is _ _, stable_is _ _, stable_is _ _, stable_is _ _, stable_is _ _, trivial⟩ ?_ (Below.refl _ _).drew ?_ ?_
    · as_aux_lemma => kernel_rfl
    · as_aux_lemma => kernel_rfl
    · as_aux_lemma => kernel_rfl
    · as_aux_lemma => kernel_rfl
    · as_aux_lemma => kernel_rfl
    · exact ⟨rfl, rfl, rfl, rfl, rfl, rfl, trivial⟩
    · refine ⟨?_, ?_, ?_, ?_, ?_, ?_, ?_, ?_, ?_, ?_, trivial⟩
      · as_aux_lemma =>
          intro vals a W hS hL
          have e3 : a.tmps.getD 3 undef = .pointer (some ⟨g0, 0, none⟩) := hL.1
          clear hL
          go_simp
          exact ⟨⟨fun d hd => by injection hd with hd; subst hd; rfl, fun h => by cases h⟩, hS, (Below.refl _ _)⟩
      · as_aux_lemma =>
          intro vals a W hS hL
          have e39 : a.tmps.getD 39 undef = .pointer (some ⟨g0, 1, none⟩) := hL.1
          clear hL
          refine lands_vB (run_lds (HKe.out.below hS HKe.out.lt) rfl (.tmp 39) rfl e39) ?_
          exact ⟨⟨fun d hd => by injection hd with hd; subst hd; rfl, fun h => by cases h⟩, hS, Below.refl _ _⟩
      · as_aux_lemma =>
          intro vals a W hS hL
          have e8 : a.tmps.getD 8 undef = .int .i64 k := hL.1
          clear hL
          go_simp
          exact ⟨⟨fun d hd => by injection hd with hd; subst hd; rfl, fun h => by cases h⟩, hS, (Below.refl _ _)⟩
      · as_aux_lemma =>
          intro vals a W hS hL
          have e40 : a.tmps.getD 40 undef = .slice A n c := hL.1
          have e41 : a.tmps.getD 41 undef = .int .i64 k := hL.2.1
          clear hL
          refine lands_hi (.tmp 40) (.tmp 41) rfl e40 e41 (run_hiS W A n c k HKC.out) ?_
          exact ⟨⟨fun d hd => by injection hd with hd; subst hd; rfl, fun h => by cases h⟩, hS, Below.refl _ _⟩
      · as_aux_lemma =>
          intro vals a W hS hL
          have e3 : a.tmps.getD 3 undef = .pointer (some ⟨g0, 0, none⟩) := hL.1
          clear hL
          go_simp
          exact ⟨⟨fun d hd => by injection hd with hd; subst hd; rfl, fun h => by cases h⟩, hS, (Below.refl _ _)⟩
      · as_aux_lemma =>
          intro vals a W hS hL
          have e43 : a.tmps.getD 43 undef = .pointer (some ⟨g0, 1, none⟩) := hL.1
          clear hL
          refine lands_vB (run_lds (HKe.out.below hS HKe.out.lt) rfl (.tmp 43) rfl e43) ?_
          exact ⟨⟨fun d hd => by injection hd with hd; subst hd; rfl, fun h => by cases h⟩, hS, Below.refl _ _⟩
      · as_aux_lemma =>
          intro vals a W hS hL
          have e8 : a.tmps.getD 8 undef = .int .i64 k := hL.1
          clear hL
          go_simp
          exact ⟨⟨fun d hd => by injection hd with hd; subst hd; rfl, fun h => by cases h⟩, hS, (Below.refl _ _)⟩
      · as_aux_lemma =>
          intro vals a W hS hL
          have e44 : a.tmps.getD 44 undef = .slice A n c := hL.1
          have e45 : a.tmps.getD 45 undef = .int .i64 k := hL.2.1
          clear hL
          refine lands_lo (.tmp 44) (.tmp 45) rfl e44 e45 (run_loS W A n c k HKN.out) ?_
          exact ⟨⟨fun d hd => by injection hd with hd; subst hd; rfl, fun h => by cases h⟩, hS, Below.refl _ _⟩
      · as_aux_lemma =>
          intro vals a W hS hL
          have e42 : a.tmps.getD 42 undef = .slice A k c := hL.1
          clear hL
          go_simp
          exact ⟨⟨fun d hd => by injection hd with hd; subst hd; rfl, fun h => by cases h⟩, hS, (Below.refl _ _)⟩
      · as_aux_lemma =>
          intro vals a W hS hL
          have e46 : a.tmps.getD 46 undef = .slice (advS A c k) (n - k) (c - k) := hL.1
          clear hL
          go_simp
          exact ⟨⟨fun d hd => by injection hd with hd; subst hd; rfl, fun h => by cases h⟩, hS, (Below.refl _ _)⟩
    · intro a W vals hd hsz hT hF hv hP hS
      obtain rfl : vals = [] := List.eq_nil_of_length_eq_zero hv
      have e3 : a.tmps.getD 3 undef = .pointer (some ⟨g0, 0, none⟩) := hT 3 (by simp)
      have e4 : a.tmps.getD 4 undef = .pointer (some ⟨g1, 0, none⟩) := hT 4 (by simp)
      have e5 : a.tmps.getD 5 undef = .pointer (some ⟨g2, 0, none⟩) := hT 5 (by simp)
      have e7 : a.tmps.getD 7 undef = .slice none 0 0 := hT 7 (by simp)
      have e8 : a.tmps.getD 8 undef = .int .i64 k := hT 8 (by simp)
      have e9 : a.tmps.getD 9 undef = .bool fd := hT 9 (by simp)
      have e10 : a.tmps.getD 10 undef = .slice A k c := hT 10 (by simp)
      have e11 : a.tmps.getD 11 undef = .slice (advS A c k) (n - k) (c - k) := hT 11 (by simp)
      clear hT hF hP
      rw [act_lit 55 a hd hsz]
      simp only [List.range, List.range.loop, List.map, e3, e4, e5, e7, e8, e9, e10, e11]
      clear e3 e4 e5 e7 e8 e9 e10 e11 hsz hd
      have HB2 := Lib.hid (HB.out.call hS)
      clear hS HB HKe
      cases fd with
      | true =>
        repeat' (first | ((with_reducible show Oper.wp _ _ _ _ _ _); with_reducible refine stop_lo _ _ rfl ?_) | go_values | go_skip | go_guarded | go_step | go_upon)
        refine Lib.hid ?_
        refine wp_lo (.tmp 48) _ rfl rfl rfl (run_loS W (advS A c k) (n - k) (c - k) 1 (by have := HKL.out rfl; omega)) ?_
        go_simp
        repeat' (first | ((with_reducible show Oper.wp _ _ _ _ _ _); with_reducible refine stop_bsu rfl ?_) | go_values | go_skip | go_guarded | go_step | go_upon)
        refine Lib.hid ?_
        refine bs_g HB2 ([.slice A k c, .slice none 0 0, .slice (advS (advS A c k) (c - k) 1) (n - k - 1) (c - k - 1)] : List Value) (e := 25) (n := 3) (by kernel_rfl) ?_
        intro gh W HB
        go_simp
        repeat' (first | go_values | go_skip | go_guarded | go_step | go_upon)
        refine (concat3 (L0 := L.take k) (L1 := []) (L2 := L.drop (k + 1)) (B := W.heap.size) (HB.out.get (i := 0) rfl) ?_ rfl ?_ ?_ ?_ ?_ (Nat.le_refl _) ?_).mono ?_
        · rw [List.length_take, ← HE.out.2.2]; exact (Nat.min_eq_left HKN.out).symm
        · rw [List.length_drop, ← HE.out.2.2]; omega
        · rw [rwc_take]; exact (rd_takS (HR.out _ HB.out.bel) HKN.out).mono (Nat.le_trans HBB.out HB.out.bel.size)
        · exact Rd.nil _ _ _ _
        · have h1 := rd_advS (rd_advS (HR.out _ HB.out.bel) HKN.out HNC.out) (k := 1) (by have := HKL.out rfl; omega) (Nat.sub_le_sub_right HNC.out k)
          rw [List.drop_drop, ← Nat.add_mul, ← rwc_drop] at h1
          exact h1.mono (Nat.le_trans HBB.out HB.out.bel.size)
        · have := HKN.out; have := HL.out; omega
        rintro e W1 ⟨u, rfl, ho, hb⟩
        have e1 : putR L p v = L.take k ++ ([] ++ L.drop (k + 1)) := putR_eq HE.out.1 HE.out.2.1 (by rw [if_pos hk0])
        rw [← e1] at ho
        obtain ⟨Au, cu, eu, -, -, -⟩ := own_form ho
        subst eu
        have HO := Lib.hid (own_mono ho HB.out.bel.size)
        replace HB := Lib.hid (HB.out.call hb)
        clear hb ho e1
        dsimp only
        repeat' (first | go_values | go_skip | go_guarded | go_step | go_upon)
        exact bodyPost_ret (v := .slice Au (putR L p v).length cu) (by simp [results, Tryd.results24, go_sem]) rfl ⟨_, rfl, HO.out, HB.out.bel⟩
      | false =>
        repeat' (first | ((with_reducible show Oper.wp _ _ _ _ _ _); with_reducible refine stop_bsu rfl ?_) | go_values | go_skip | go_guarded | go_step | go_upon)
        refine Lib.hid ?_
        refine bs_g HB2 ([.slice A k c, .slice none 0 0, .slice (advS A c k) (n - k) (c - k)] : List Value) (e := 25) (n := 3) (by kernel_rfl) ?_
        intro gh W HB
        go_simp
        repeat' (first | go_values | go_skip | go_guarded | go_step | go_upon)
        refine (concat3 (L0 := L.take k) (L1 := []) (L2 := L.drop k) (B := W.heap.size) (HB.out.get (i := 0) rfl) ?_ rfl ?_ ?_ ?_ ?_ (Nat.le_refl _) ?_).mono ?_
        · rw [List.length_take, ← HE.out.2.2]; exact (Nat.min_eq_left HKN.out).symm
        · rw [List.length_drop, ← HE.out.2.2]
        · rw [rwc_take]; exact (rd_takS (HR.out _ HB.out.bel) HKN.out).mono (Nat.le_trans HBB.out HB.out.bel.size)
        · exact Rd.nil _ _ _ _
        · have h1 := rd_advS (HR.out _ HB.out.bel) HKN.out HNC.out
          rw [← rwc_drop] at h1
          exact h1.mono (Nat.le_trans HBB.out HB.out.bel.size)
        · have := HKN.out; have := HL.out; omega
        rintro e W1 ⟨u, rfl, ho, hb⟩
        have e1 : putR L p v = L.take k ++ ([] ++ L.drop k) := putR_eq HE.out.1 HE.out.2.1 (by rw [if_pos hk0])
        rw [← e1] at ho
        obtain ⟨Au, cu, eu, -, -, -⟩ := own_form ho
        subst eu
        have HO := Lib.hid (own_mono ho HB.out.bel.size)
        replace HB := Lib.hid (HB.out.call hb)
        clear hb ho e1
        dsimp only
        repeat' (first | go_values | go_skip | go_guarded | go_step | go_upon)
        exact bodyPost_ret (v := .slice Au (putR L p v).length cu) (by simp [results, Tryd.results24, go_sem]) rfl ⟨_, rfl, HO.out, HB.out.bel⟩
  · have fk : (v.k != 0) = true := by rw [bne_iff_ne]; exact hk0
    repeat' (first | ((with_reducible show Oper.wp _ _ _ _ _ _); (first | (with_reducible refine is_ld 40 _ rfl ?_; (first | refine ld_pl 0 HB rfl _ rfl rfl ?_ | refine ld_pl 1 HB rfl _ rfl rfl ?_ | refine ld_pl 2 HB rfl _ rfl rfl ?_ | refine ld_pl 3 HB rfl _ rfl rfl ?_ | refine ld_pl 4 HB rfl _ rfl rfl ?_ | refine ld_pl 5 HB rfl _ rfl rfl ?_)) | (with_reducible refine is_ld 32 _ rfl ?_; (first | refine ld_va 0 HB rfl _ rfl rfl ?_ | refine ld_va 1 HB rfl _ rfl rfl ?_ | refine ld_va 2 HB rfl _ rfl rfl ?_ | refine ld_va 3 HB rfl _ rfl rfl ?_ | refine ld_va 4 HB rfl _ rfl rfl ?_ | refine ld_va 5 HB rfl _ rfl rfl ?_)) | (with_reducible refine is_ld 28 _ rfl ?_; (first | refine ld_en 0 HB rfl _ rfl rfl ?_ | refine ld_en 1 HB rfl _ rfl rfl ?_ | refine ld_en 2 HB rfl _ rfl rfl ?_ | refine ld_en 3 HB rfl _ rfl rfl ?_ | refine ld_en 4 HB rfl _ rfl rfl ?_ | refine ld_en 5 HB rfl _ rfl rfl ?_)) | (with_reducible refine is_ld 44 _ rfl ?_; (first | refine ld_sl 0 HB rfl _ rfl rfl ?_ | refine ld_sl 1 HB rfl _ rfl rfl ?_ | refine ld_sl 2 HB rfl _ rfl rfl ?_ | refine ld_sl 3 HB rfl _ rfl rfl ?_ | refine ld_sl 4 HB rfl _ rfl rfl ?_ | refine ld_sl 5 HB rfl _ rfl rfl ?_))); go_simp) | ((with_reducible show Oper.wp _ _ _ _ _ _); (first | (with_reducible refine is_ld 3 _ rfl ?_; (first | refine lf_int 0 HB rfl _ rfl rfl rfl ?_ | refine lf_int 1 HB rfl _ rfl rfl rfl ?_ | refine lf_int 2 HB rfl _ rfl rfl rfl ?_ | refine lf_int 3 HB rfl _ rfl rfl rfl ?_ | refine lf_int 4 HB rfl _ rfl rfl rfl ?_ | refine lf_int 5 HB rfl _ rfl rfl rfl ?_)) | (with_reducible refine is_ld 25 _ rfl ?_; (first | refine lf_ss 0 HB rfl _ rfl rfl rfl ?_ | refine lf_ss 1 HB rfl _ rfl rfl rfl ?_ | refine lf_ss 2 HB rfl _ rfl rfl rfl ?_ | refine lf_ss 3 HB rfl _ rfl rfl rfl ?_ | refine lf_ss 4 HB rfl _ rfl rfl rfl ?_ | refine lf_ss 5 HB rfl _ rfl rfl rfl ?_)) | (with_reducible refine is_ld 26 _ rfl ?_; (first | refine lf_es 0 HB rfl _ rfl rfl rfl ?_ | refine lf_es 1 HB rfl _ rfl rfl rfl ?_ | refine lf_es 2 HB rfl _ rfl rfl rfl ?_ | refine lf_es 3 HB rfl _ rfl rfl rfl ?_ | refine lf_es 4 HB rfl _ rfl rfl rfl ?_ | refine lf_es 5 HB rfl _ rfl rfl rfl ?_))); go_simp) | ((with_reducible show Oper.wp _ _ _ _ _ _); with_reducible refine stop_bd rfl ?_) | go_values | go_skip | go_guarded | go_step | go_upon)
    refine Lib.hid ?_
    refine wp_b (v := .agg (slc ⟨p, v⟩).toArray) (by kernel_rfl) ?_
    go_simp
    repeat' (first | ((with_reducible show Oper.wp _ _ _ _ _ _); with_reducible refine stop_bsu rfl ?_) | go_values | go_skip | go_guarded | go_step | go_upon)
    refine Lib.hid ?_
    refine bs_g HB (slc ⟨p, v⟩) (e := 44) (n := 1) (by kernel_rfl) ?_
    clear HB
    intro g3 W HB
    go_simp
    repeat' (first | ((with_reducible show Oper.wp _ _ _ _ _ _); (first | (with_reducible refine is_ld 40 _ rfl ?_; (first | refine ld_pl 0 HB rfl _ rfl rfl ?_ | refine ld_pl 1 HB rfl _ rfl rfl ?_ | refine ld_pl 2 HB rfl _ rfl rfl ?_ | refine ld_pl 3 HB rfl _ rfl rfl ?_ | refine ld_pl 4 HB rfl _ rfl rfl ?_ | refine ld_pl 5 HB rfl _ rfl rfl ?_)) | (with_reducible refine is_ld 32 _ rfl ?_; (first | refine ld_va 0 HB rfl _ rfl rfl ?_ | refine ld_va 1 HB rfl _ rfl rfl ?_ | refine ld_va 2 HB rfl _ rfl rfl ?_ | refine ld_va 3 HB rfl _ rfl rfl ?_ | refine ld_va 4 HB rfl _ rfl rfl ?_ | refine ld_va 5 HB rfl _ rfl rfl ?_)) | (with_reducible refine is_ld 28 _ rfl ?_; (first | refine ld_en 0 HB rfl _ rfl rfl ?_ | refine ld_en 1 HB rfl _ rfl rfl ?_ | refine ld_en 2 HB rfl _ rfl rfl ?_ | refine ld_en 3 HB rfl _ rfl rfl ?_ | refine ld_en 4 HB rfl _ rfl rfl ?_ | refine ld_en 5 HB rfl _ rfl rfl ?_)) | (with_reducible refine is_ld 44 _ rfl ?_; (first | refine ld_sl 0 HB rfl _ rfl rfl ?_ | refine ld_sl 1 HB rfl _ rfl rfl ?_ | refine ld_sl 2 HB rfl _ rfl rfl ?_ | refine ld_sl 3 HB rfl _ rfl rfl ?_ | refine ld_sl 4 HB rfl _ rfl rfl ?_ | refine ld_sl 5 HB rfl _ rfl rfl ?_))); go_simp) | ((with_reducible show Oper.wp _ _ _ _ _ _); (first | (with_reducible refine is_ld 3 _ rfl ?_; (first | refine lf_int 0 HB rfl _ rfl rfl rfl ?_ | refine lf_int 1 HB rfl _ rfl rfl rfl ?_ | refine lf_int 2 HB rfl _ rfl rfl rfl ?_ | refine lf_int 3 HB rfl _ rfl rfl rfl ?_ | refine lf_int 4 HB rfl _ rfl rfl rfl ?_ | refine lf_int 5 HB rfl _ rfl rfl rfl ?_)) | (with_reducible refine is_ld 25 _ rfl ?_; (first | refine lf_ss 0 HB rfl _ rfl rfl rfl ?_ | refine lf_ss 1 HB rfl _ rfl rfl rfl ?_ | refine lf_ss 2 HB rfl _ rfl rfl rfl ?_ | refine lf_ss 3 HB rfl _ rfl rfl rfl ?_ | refine lf_ss 4 HB rfl _ rfl rfl rfl ?_ | refine lf_ss 5 HB rfl _ rfl rfl rfl ?_)) | (with_reducible refine is_ld 26 _ rfl ?_; (first | refine lf_es 0 HB rfl _ rfl rfl rfl ?_ | refine lf_es 1 HB rfl _ rfl rfl rfl ?_ | refine lf_es 2 HB rfl _ rfl rfl rfl ?_ | refine lf_es 3 HB rfl _ rfl rfl rfl ?_ | refine lf_es 4 HB rfl _ rfl rfl rfl ?_ | refine lf_es 5 HB rfl _ rfl rfl rfl ?_))); go_simp) | go_values | go_skip | go_guarded | go_step | go_upon)
    refine (HS.out _ HB.out.bel).mono ?_
    rintro e W1 ⟨rfl, hb⟩
    replace HB := Lib.hid (HB.out.call hb)
    clear hb
    dsimp only
    repeat' (first | go_values | go_skip | go_guarded | go_step | go_upon)
    obtain ⟨W0, hW⟩ : ∃ W0, W0 = W1 := ⟨_, rfl⟩
    subst hW
    have HKe := Lib.hid (HB.out.get (i := 3) rfl)
    refine wp_region_phases (S := (fun _ W => Below W0.heap.size W0 W)) (E := (fun W W' => Below W.heap.size W W')) [] [(3, Is (.pointer (some ⟨g0, 0, none⟩))), (4, Is (.pointer (some ⟨g1, 0, none⟩))), (5, Is (.pointer (some ⟨g2, 0, none⟩))), (7, Is (.slice (some ⟨g3, 0, none⟩) 1 1)), (8, Is (.int .i64 k)), (9, Is (.bool fd))] [(39, Is (.pointer (some ⟨g0, 1, none⟩))), (40, Is (.slice A n c)), (41, Is (.int .i64 k)), (42, Is (.slice A k c)), (43, Is (.pointer (some ⟨g0, 1, none⟩))), (44, Is (.slice A n c)), (45, Is (.int .i64 k)), (46, Is (.slice (advS A c k) (n - k) (c - k))), (10, Is (.slice A k c)), (11, Is (.slice (advS A c k) (n - k) (c - k)))]
      [.op [3] none, .op [39] none, .op [8] none, .op [40, 41] none, .op [3] none, .op [43] none, .op [8] none, .op [44, 45] none, .op [42] none, .op [46] none] (by as_aux_lemma => kernel_rfl) ?_ ?_ ?_ ?_ ?_ ⟨stable_is _ _, stable_is _ _, stable_is _ _, stable_is _ _, stable_is _ _, stable_is _ _, stable_is _ _, stable_is _ _, stable_is _ _, stable_is _ _, stable_is _ _, stable_is _ _, stable_is _ _, stable_is _ _, stable_is _ _, stable_is _ _, trivial⟩ ?_ (Below.refl _ _).drew ?_ ?_
    · as_aux_lemma => kernel_rfl
    · as_aux_lemma => kernel_rfl
    · as_aux_lemma => kernel_rfl
    · as_aux_lemma => kernel_rfl
    · as_aux_lemma => kernel_rfl
    · exact ⟨rfl, rfl, rfl, rfl, rfl, rfl, trivial⟩
    · refine ⟨?_, ?_, ?_, ?_, ?_, ?_, ?_, ?_, ?_, ?_, trivial⟩
      · as_aux_lemma =>
          intro vals a W hS hL
          have e3 : a.tmps.getD 3 undef = .pointer (some ⟨g0, 0, none⟩) := hL.1
          clear hL
          go_simp
          exact ⟨⟨fun d hd => by injection hd with hd; subst hd; rfl, fun h => by cases h⟩, hS, (Below.refl _ _)⟩
      · as_aux_lemma =>
          intro vals a W hS hL
          have e39 : a.tmps.getD 39 undef = .pointer (some ⟨g0, 1, none⟩) := hL.1
          clear hL
          refine lands_vB (run_lds (HKe.out.below hS HKe.out.lt) rfl (.tmp 39) rfl e39) ?_
          exact ⟨⟨fun d hd => by injection hd with hd; subst hd; rfl, fun h => by cases h⟩, hS, Below.refl _ _⟩
      · as_aux_lemma =>
          intro vals a W hS hL
          have e8 : a.tmps.getD 8 undef = .int .i64 k := hL.1
          clear hL
          go_simp
          exact ⟨⟨fun d hd => by injection hd with hd; subst hd; rfl, fun h => by cases h⟩, hS, (Below.refl _ _)⟩
      · as_aux_lemma =>
          intro vals a W hS hL
          have e40 : a.tmps.getD 40 undef = .slice A n c := hL.1
          have e41 : a.tmps.getD 41 undef = .int .i64 k := hL.2.1
          clear hL
          refine lands_hi (.tmp 40) (.tmp 41) rfl e40 e41 (run_hiS W A n c k HKC.out) ?_
          exact ⟨⟨fun d hd => by injection hd with hd; subst hd; rfl, fun h => by cases h⟩, hS, Below.refl _ _⟩
      · as_aux_lemma =>
          intro vals a W hS hL
          have e3 : a.tmps.getD 3 undef = .pointer (some ⟨g0, 0, none⟩) := hL.1
          clear hL
          go_simp
          exact ⟨⟨fun d hd => by injection hd with hd; subst hd; rfl, fun h => by cases h⟩, hS, (Below.refl _ _)⟩
      · as_aux_lemma =>
          intro vals a W hS hL
          have e43 : a.tmps.getD 43 undef = .pointer (some ⟨g0, 1, none⟩) := hL.1
          clear hL
          refine lands_vB (run_lds (HKe.out.below hS HKe.out.lt) rfl (.tmp 43) rfl e43) ?_
          exact ⟨⟨fun d hd => by injection hd with hd; subst hd; rfl, fun h => by cases h⟩, hS, Below.refl _ _⟩
      · as_aux_lemma =>
          intro vals a W hS hL
          have e8 : a.tmps.getD 8 undef = .int .i64 k := hL.1
          clear hL
          go_simp
          exact ⟨⟨fun d hd => by injection hd with hd; subst hd; rfl, fun h => by cases h⟩, hS, (Below.refl _ _)⟩
      · as_aux_lemma =>
          intro vals a W hS hL
          have e44 : a.tmps.getD 44 undef = .slice A n c := hL.1
          have e45 : a.tmps.getD 45 undef = .int .i64 k := hL.2.1
          clear hL
          refine lands_lo (.tmp 44) (.tmp 45) rfl e44 e45 (run_loS W A n c k HKN.out) ?_
          exact ⟨⟨fun d hd => by injection hd with hd; subst hd; rfl, fun h => by cases h⟩, hS, Below.refl _ _⟩
      · as_aux_lemma =>
          intro vals a W hS hL
          have e42 : a.tmps.getD 42 undef = .slice A k c := hL.1
          clear hL
          go_simp
          exact ⟨⟨fun d hd => by injection hd with hd; subst hd; rfl, fun h => by cases h⟩, hS, (Below.refl _ _)⟩
      · as_aux_lemma =>
          intro vals a W hS hL
          have e46 : a.tmps.getD 46 undef = .slice (advS A c k) (n - k) (c - k) := hL.1
          clear hL
          go_simp
          exact ⟨⟨fun d hd => by injection hd with hd; subst hd; rfl, fun h => by cases h⟩, hS, (Below.refl _ _)⟩
    · intro a W vals hd hsz hT hF hv hP hS
      obtain rfl : vals = [] := List.eq_nil_of_length_eq_zero hv
      have e3 : a.tmps.getD 3 undef = .pointer (some ⟨g0, 0, none⟩) := hT 3 (by simp)
      have e4 : a.tmps.getD 4 undef = .pointer (some ⟨g1, 0, none⟩) := hT 4 (by simp)
      have e5 : a.tmps.getD 5 undef = .pointer (some ⟨g2, 0, none⟩) := hT 5 (by simp)
      have e7 : a.tmps.getD 7 undef = .slice (some ⟨g3, 0, none⟩) 1 1 := hT 7 (by simp)
      have e8 : a.tmps.getD 8 undef = .int .i64 k := hT 8 (by simp)
      have e9 : a.tmps.getD 9 undef = .bool fd := hT 9 (by simp)
      have e10 : a.tmps.getD 10 undef = .slice A k c := hT 10 (by simp)
      have e11 : a.tmps.getD 11 undef = .slice (advS A c k) (n - k) (c - k) := hT 11 (by simp)
      clear hT hF hP
      rw [act_lit 55 a hd hsz]
      simp only [List.range, List.range.loop, List.map, e3, e4, e5, e7, e8, e9, e10, e11]
      clear e3 e4 e5 e7 e8 e9 e10 e11 hsz hd
      have HB2 := Lib.hid (HB.out.call hS)
      clear hS HB HKe
      cases fd with
      | true =>
        repeat' (first | ((with_reducible show Oper.wp _ _ _ _ _ _); with_reducible refine stop_lo _ _ rfl ?_) | go_values | go_skip | go_guarded | go_step | go_upon)
        refine Lib.hid ?_
        refine wp_lo (.tmp 48) _ rfl rfl rfl (run_loS W (advS A c k) (n - k) (c - k) 1 (by have := HKL.out rfl; omega)) ?_
        go_simp
        repeat' (first | ((with_reducible show Oper.wp _ _ _ _ _ _); with_reducible refine stop_bsu rfl ?_) | go_values | go_skip | go_guarded | go_step | go_upon)
        refine Lib.hid ?_
        refine bs_g HB2 ([.slice A k c, .slice (some ⟨g3, 0, none⟩) 1 1, .slice (advS (advS A c k) (c - k) 1) (n - k - 1) (c - k - 1)] : List Value) (e := 25) (n := 3) (by kernel_rfl) ?_
        intro gh W HB
        go_simp
        repeat' (first | go_values | go_skip | go_guarded | go_step | go_upon)
        refine (concat3 (L0 := L.take k) (L1 := [⟨p, v⟩]) (L2 := L.drop (k + 1)) (B := W.heap.size) (HB.out.get (i := 0) rfl) ?_ rfl ?_ ?_ ?_ ?_ (Nat.le_refl _) ?_).mono ?_
        · rw [List.length_take, ← HE.out.2.2]; exact (Nat.min_eq_left HKN.out).symm
        · rw [List.length_drop, ← HE.out.2.2]; omega
        · rw [rwc_take]; exact (rd_takS (HR.out _ HB.out.bel) HKN.out).mono (Nat.le_trans HBB.out HB.out.bel.size)
        · rw [rwc_1]; exact bk_rd (n := 1) (k := 9) (HB.out.get (i := 1) rfl) rfl
        · have h1 := rd_advS (rd_advS (HR.out _ HB.out.bel) HKN.out HNC.out) (k := 1) (by have := HKL.out rfl; omega) (Nat.sub_le_sub_right HNC.out k)
          rw [List.drop_drop, ← Nat.add_mul, ← rwc_drop] at h1
          exact h1.mono (Nat.le_trans HBB.out HB.out.bel.size)
        · have := HKN.out; have := HL.out; omega
        rintro e W1 ⟨u, rfl, ho, hb⟩
        have e1 : putR L p v = L.take k ++ ([⟨p, v⟩] ++ L.drop (k + 1)) := putR_eq HE.out.1 HE.out.2.1 (by rw [if_neg hk0])
        rw [← e1] at ho
        obtain ⟨Au, cu, eu, -, -, -⟩ := own_form ho
        subst eu
        have HO := Lib.hid (own_mono ho HB.out.bel.size)
        replace HB := Lib.hid (HB.out.call hb)
        clear hb ho e1
        dsimp only
        repeat' (first | go_values | go_skip | go_guarded | go_step | go_upon)
        exact bodyPost_ret (v := .slice Au (putR L p v).length cu) (by simp [results, Tryd.results24, go_sem]) rfl ⟨_, rfl, HO.out, HB.out.bel⟩
      | false =>
        repeat' (first | ((with_reducible show Oper.wp _ _ _ _ _ _); with_reducible refine stop_bsu rfl ?_) | go_values | go_skip | go_guarded | go_step | go_upon)
        refine Lib.hid ?_
        refine bs_g HB2 ([.slice A k c, .slice (some ⟨g3, 0, none⟩) 1 1, .slice (advS A c k) (n - k) (c - k)] : List Value) (e := 25) (n := 3) (by kernel_rfl) ?_
        intro gh W HB
        go_simp
        repeat' (first | go_values | go_skip | go_guarded | go_step | go_upon)
        refine (concat3 (L0 := L.take k) (L1 := [⟨p, v⟩]) (L2 := L.drop k) (B := W.heap.size) (HB.out.get (i := 0) rfl) ?_ rfl ?_ ?_ ?_ ?_ (Nat.le_refl _) ?_).mono ?_
        · rw [List.length_take, ← HE.out.2.2]; exact (Nat.min_eq_left HKN.out).symm
        · rw [List.length_drop, ← HE.out.2.2]
        · rw [rwc_take]; exact (rd_takS (HR.out _ HB.out.bel) HKN.out).mono (Nat.le_trans HBB.out HB.out.bel.size)
        · rw [rwc_1]; exact bk_rd (n := 1) (k := 9) (HB.out.get (i := 1) rfl) rfl
        · have h1 := rd_advS (HR.out _ HB.out.bel) HKN.out HNC.out
          rw [← rwc_drop] at h1
          exact h1.mono (Nat.le_trans HBB.out HB.out.bel.size)
        · have := HKN.out; have := HL.out; omega
        rintro e W1 ⟨u, rfl, ho, hb⟩
        have e1 : putR L p v = L.take k ++ ([⟨p, v⟩] ++ L.drop k) := putR_eq HE.out.1 HE.out.2.1 (by rw [if_neg hk0])
        rw [← e1] at ho
        obtain ⟨Au, cu, eu, -, -, -⟩ := own_form ho
        subst eu
        have HO := Lib.hid (own_mono ho HB.out.bel.size)
        replace HB := Lib.hid (HB.out.call hb)
        clear hb ho e1
        dsimp only
        repeat' (first | go_values | go_skip | go_guarded | go_step | go_upon)
        exact bodyPost_ret (v := .slice Au (putR L p v).length cu) (by simp [results, Tryd.results24, go_sem]) rfl ⟨_, rfl, HO.out, HB.out.bel⟩
end Go.Proofs.YtkjiokepihmpfaaDoor

