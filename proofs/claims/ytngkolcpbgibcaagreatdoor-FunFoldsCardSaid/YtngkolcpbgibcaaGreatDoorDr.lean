/- fun's smallest functions by their contracts. No condition. -/
/- Rows of rows: what a slice's elements read as, by the form of one element; kept while only other blocks turn. No condition. -/
/- Boxes told as a list in regions that draw their order. No condition. -/
import Derived.Test.YtngkolcpbgibcaaGreatDoorBX
import Derived.Test.YtngkolcpbgibcaaGreatDoorEarly
import Derived.Test.YtngkolcpbgibcaaGreatDoorW4
set_option linter.unusedVariables false
set_option linter.unusedSimpArgs false
namespace Go.Proofs.YtngkolcpbgibcaaGreatDoor
open Go.RowKit
theorem BX.load_v {w W : World} {bs : Bxs} {g : Nat} {v : VX} (H : BX w bs W) (i : Nat) (hi : bs[i]? = some (g, 32, vc v)) : (loadVar 32 ⟨g, 0, none⟩).run Tryz.prog W = .ok (.agg (vc v).toArray) W := by
  refine load_any W _ _ (vc v) _ (fun j u hu => ?_) Tryz.underlying32 rfl (by rw [vc_len]; kernel_rfl); have e : (⟨g, 0, none⟩ : Addr).add j = ⟨g, j, none⟩ := by unfold Addr.add; split <;> simp_all
  rw [e, H.cell hi]; exact hu
theorem BX.load_d {w W : World} {bs : Bxs} {g : Nat} {m s : Int} (H : BX w bs W) (i : Nat) (hi : bs[i]? = some (g, 30, dc m s)) : (loadVar 30 ⟨g, 0, none⟩).run Tryz.prog W = .ok (.agg (dc m s).toArray) W := by
  refine load_any W _ _ (dc m s) _ (fun j u hu => ?_) Tryz.underlying30 rfl (by kernel_rfl); have e : (⟨g, 0, none⟩ : Addr).add j = ⟨g, j, none⟩ := by unfold Addr.add; split <;> simp_all
  rw [e, H.cell hi]; exact hu
set_option maxRecDepth 20000 in
set_option maxHeartbeats 2000000 in
theorem fTruth_any {w : World} (b : Bool) :
    Calls Tryz.prog 67 #[.bool b] w fun e W => e = .returned (.agg (vc (.bool b)).toArray) ∧ Below w.heap.size w W := by
  have HB := Lib.hid (BX.start w); go_enter Tryz.func67, Tryz.ntmps67
  repeat' (first | ((with_reducible show Oper.wp _ _ _ _ _ _); (first | (refine al_v HB rfl ?_; clear HB; intro g0 W HB; go_simp) | (apply stop_bd; exact rfl))) | go_values | go_skip | go_guarded | go_step | go_upon)
  refine Lib.hid ?_; refine wp_b (v := .agg (vc (.bool b)).toArray) (by kernel_rfl) ?_; go_simp
  repeat' (first | ((with_reducible show Oper.wp _ _ _ _ _ _); refine st_v 0 HB rfl _ _ rfl rfl rfl ?_; clear HB; intro W HB; dsimp only [List.set] at HB; go_simp) | go_values | go_skip | go_guarded | go_step | go_upon)
  exact bodyPost_ret (res_v rfl HB (i := 0) rfl rfl) rfl ⟨rfl, HB.out.bel⟩
set_option maxRecDepth 20000 in
set_option maxHeartbeats 2000000 in
theorem fNumber_any {w : World} (m : Int) (s : Nat) :
    Calls Tryz.prog 107 #[.agg (dc m s).toArray] w fun e W => e = .returned (.agg (vc (.num m s)).toArray) ∧ Below w.heap.size w W := by
  have HB := Lib.hid (BX.start w); go_enter Tryz.func107, Tryz.ntmps107
  repeat' (first | ((with_reducible show Oper.wp _ _ _ _ _ _); (first | ((first | refine al_v HB rfl ?_ | refine bx_d HB _ rfl rfl ?_); clear HB; (first | (have _t : Nat := g0; clear _t; intro g1 W HB) | intro g0 W HB); go_simp) | (refine ld_d 1 HB rfl _ rfl rfl ?_; go_simp) | (apply stop_bd; exact rfl))) | go_values | go_skip | go_guarded | go_step | go_upon)
  refine Lib.hid ?_; refine wp_b (v := .agg (vc (.num m s)).toArray) (by kernel_rfl) ?_; go_simp
  repeat' (first | ((with_reducible show Oper.wp _ _ _ _ _ _); refine st_v 0 HB rfl _ _ rfl rfl rfl ?_; clear HB; intro W HB; dsimp only [List.set] at HB; go_simp) | go_values | go_skip | go_guarded | go_step | go_upon)
  exact bodyPost_ret (res_v rfl HB (i := 0) rfl rfl) rfl ⟨rfl, HB.out.bel⟩
theorem fFault {w : World} (k : Int) : Calls Tryz.prog 30 #[.int .i64 k] w fun e W => e = .returned (.agg (vc (.err k)).toArray) ∧ Below w.heap.size w W := fault_any k
theorem fInt {w : World} (k : Int) : Calls Tryz.prog 32 #[.int .i64 k] w fun e W => e = .returned (.agg (dc k (0 : Nat)).toArray) ∧ Below w.heap.size w W := int_any
set_option maxRecDepth 20000 in
set_option maxHeartbeats 2000000 in
theorem fText_any {w : World} (HV : Val w) (l : List UInt8) (hl : l.length ≤ 140737488355328) :
    Calls Tryz.prog 114 #[sL l] w fun e W => e = .returned (.agg (vc (textX l)).toArray) ∧ Below w.heap.size w W := by
  have HU : Hid (∀ W, Below w.heap.size w W → Calls Tryz.prog 64 #[.string ⟨l.toArray⟩] W fun e W' => e = .returned (.tuple #[.int .i64 (uV l), .int .i64 (uE l)]) ∧ Below W.heap.size W W') := Lib.hid fun W hW => by
    simpa using units_any (HV.below hW) ⟨l.toArray⟩ (by simpa [ByteArray.size] using hl)
  have HB := Lib.hid (BX.start w); clear HV hl; unfold sL
  by_cases h : uE l = 0
  · rw [show textX l = .str l from if_pos h]; rw [h] at HU; clear h; go_enter Tryz.func114, Tryz.ntmps114
    repeat' (first | ((with_reducible show Oper.wp _ _ _ _ _ _); refine al_v HB rfl ?_; clear HB; intro g0 W HB; go_simp) | go_values | go_skip | go_guarded | go_step | go_upon)
    refine (HU.out _ HB.out.bel).mono ?_; rintro e W1 ⟨rfl, hb⟩; have HB := Lib.hid (HB.out.call hb); clear hb; dsimp only
    repeat' (first | ((with_reducible show Oper.wp _ _ _ _ _ _); apply stop_bd; exact rfl) | go_values | go_skip | go_guarded | go_step | go_upon)
    refine Lib.hid ?_; refine wp_b (v := .agg (vc (.str l)).toArray) (by kernel_rfl) ?_; go_simp
    repeat' (first | ((with_reducible show Oper.wp _ _ _ _ _ _); refine st_v 0 HB rfl _ _ rfl rfl rfl ?_; clear HB; intro W HB; dsimp only [List.set] at HB; go_simp) | go_values | go_skip | go_guarded | go_step | go_upon)
    exact bodyPost_ret (res_v rfl HB (i := 0) rfl rfl) rfl ⟨rfl, HB.out.bel⟩
  · rw [show textX l = .err 15 from if_neg h]; have h' : (uE l != 0) = true := by simpa using h
    clear h; go_enter Tryz.func114, Tryz.ntmps114
    repeat' (first | ((with_reducible show Oper.wp _ _ _ _ _ _); refine al_v HB rfl ?_; clear HB; intro g0 W HB; go_simp) | go_values | go_skip | go_guarded | go_step | go_upon)
    refine (HU.out _ HB.out.bel).mono ?_; rintro e W1 ⟨rfl, hb⟩; have HB := Lib.hid (HB.out.call hb); clear hb; dsimp only
    repeat' (first | go_values | go_skip | go_guarded | go_step | go_upon)
    refine (fFault 15).mono ?_; rintro e W1 ⟨rfl, hb⟩; have HB := Lib.hid (HB.out.call hb); clear hb; dsimp only
    repeat' (first | ((with_reducible show Oper.wp _ _ _ _ _ _); refine st_v 0 HB rfl _ _ rfl rfl rfl ?_; clear HB; intro W HB; dsimp only [List.set] at HB; go_simp) | go_values | go_skip | go_guarded | go_step | go_upon)
    exact bodyPost_ret (res_v rfl HB (i := 0) rfl rfl) rfl ⟨rfl, HB.out.bel⟩
set_option maxRecDepth 20000 in
set_option maxHeartbeats 2000000 in
theorem reckoned_any {w : World} (r : DR) :
    Calls Tryz.prog 106 #[.agg (dc r.m r.s).toArray, .int .i64 (r.e : Nat)] w fun e W => e = .returned (.agg (vc (reckX r)).toArray) ∧ Below w.heap.size w W := by
  have HB := Lib.hid (BX.start w)
  by_cases h0 : r.e = 0
  · rw [show reckX r = .num r.m r.s from if_pos h0, h0]; clear h0; go_enter Tryz.func106, Tryz.ntmps106
    repeat' (first | ((with_reducible show Oper.wp _ _ _ _ _ _); (first | ((first | refine al_v HB rfl ?_ | refine bx_d HB _ rfl rfl ?_); clear HB; (first | (have _t : Nat := g0; clear _t; intro g1 W HB) | intro g0 W HB); go_simp) | (refine ld_d 1 HB rfl _ rfl rfl ?_; go_simp))) | go_values | go_skip | go_guarded | go_step | go_upon)
    refine (fNumber_any r.m r.s).mono ?_; rintro e W1 ⟨rfl, hb⟩; have HB := Lib.hid (HB.out.call hb); clear hb; dsimp only
    repeat' (first | ((with_reducible show Oper.wp _ _ _ _ _ _); refine st_v 0 HB rfl _ _ rfl rfl rfl ?_; clear HB; intro W HB; dsimp only [List.set] at HB; go_simp) | go_values | go_skip | go_guarded | go_step | go_upon)
    exact bodyPost_ret (res_v rfl HB (i := 0) rfl rfl) rfl ⟨rfl, HB.out.bel⟩
  · by_cases h9 : r.e = 9
    · rw [show reckX r = .err 7 from (if_neg h0).trans (if_pos h9), h9]; clear h0 h9; go_enter Tryz.func106, Tryz.ntmps106
      repeat' (first | ((with_reducible show Oper.wp _ _ _ _ _ _); (first | refine al_v HB rfl ?_ | refine bx_d HB _ rfl rfl ?_); clear HB; (first | (have _t : Nat := g0; clear _t; intro g1 W HB) | intro g0 W HB); go_simp) | go_values | go_skip | go_guarded | go_step | go_upon)
      refine (fFault 7).mono ?_; rintro e W1 ⟨rfl, hb⟩; have HB := Lib.hid (HB.out.call hb); clear hb; dsimp only
      repeat' (first | ((with_reducible show Oper.wp _ _ _ _ _ _); refine st_v 0 HB rfl _ _ rfl rfl rfl ?_; clear HB; intro W HB; dsimp only [List.set] at HB; go_simp) | go_values | go_skip | go_guarded | go_step | go_upon)
      exact bodyPost_ret (res_v rfl HB (i := 0) rfl rfl) rfl ⟨rfl, HB.out.bel⟩
    · rw [show reckX r = .err 36 from (if_neg h0).trans (if_neg h9)]; obtain ⟨k, hk⟩ : ∃ k : Int, k = (r.e : Nat) := ⟨_, rfl⟩
      have h1 : (k == 0) = false := by rw [beq_eq_false_iff_ne]; omega
      have h2 : (k == 9) = false := by rw [beq_eq_false_iff_ne]; omega
      rw [← hk]; clear h0 h9 hk; go_enter Tryz.func106, Tryz.ntmps106
      repeat' (first | ((with_reducible show Oper.wp _ _ _ _ _ _); (first | refine al_v HB rfl ?_ | refine bx_d HB _ rfl rfl ?_); clear HB; (first | (have _t : Nat := g0; clear _t; intro g1 W HB) | intro g0 W HB); go_simp) | go_values | go_skip | go_guarded | go_step | go_upon)
      refine (fFault 36).mono ?_; rintro e W1 ⟨rfl, hb⟩; have HB := Lib.hid (HB.out.call hb); clear hb; dsimp only
      repeat' (first | ((with_reducible show Oper.wp _ _ _ _ _ _); refine st_v 0 HB rfl _ _ rfl rfl rfl ?_; clear HB; intro W HB; dsimp only [List.set] at HB; go_simp) | go_values | go_skip | go_guarded | go_step | go_upon)
      exact bodyPost_ret (res_v rfl HB (i := 0) rfl rfl) rfl ⟨rfl, HB.out.bel⟩
set_option maxRecDepth 20000 in
set_option maxHeartbeats 2000000 in
theorem isWhole_any {w : World} (m : Int) (s : Nat) :
    Calls Tryz.prog 175 #[.agg (dc m s).toArray] w fun e W => e = .returned (.bool (decide (s = 0))) ∧ Below w.heap.size w W := by
  have HB := Lib.hid (BX.start w); have hd : ((s : Int) == 0) = decide (s = 0) := by rw [Bool.eq_iff_iff]; simp
  generalize decide (s = 0) = b at *; go_enter Tryz.func175, Tryz.ntmps175
  repeat' (first | ((with_reducible show Oper.wp _ _ _ _ _ _); (first | (refine bx_d HB _ rfl rfl ?_; clear HB; intro g0 W HB; go_simp) | (refine lf_int 0 HB rfl _ rfl rfl rfl ?_; go_simp))) | go_values | go_skip | go_guarded | go_step | go_upon)
  go_ret; exact ⟨rfl, HB.out.bel⟩
def funB (k : Int) : Bool := decide (0 ≤ k ∧ k < 30)
set_option maxRecDepth 20000 in
set_option maxHeartbeats 2000000 in
theorem isFunction_any {w : World} (k : Int) :
    Calls Tryz.prog 81 #[.int .i64 k] w fun e W => e = .returned (.bool (funB k)) ∧ W = w := by
  by_cases h0 : 0 ≤ k
  · by_cases h1 : k < 30
    · rw [show funB k = true from decide_eq_true ⟨h0, h1⟩]; go_enter Tryz.func81, Tryz.ntmps81
      repeat' (first | go_values | go_skip | go_guarded | go_step | go_upon)
      go_ret; exact ⟨rfl, rfl⟩
    · rw [show funB k = false from decide_eq_false fun h => h1 h.2]; go_enter Tryz.func81, Tryz.ntmps81
      repeat' (first | go_values | go_skip | go_guarded | go_step | go_upon)
      go_ret; exact ⟨rfl, rfl⟩
  · rw [show funB k = false from decide_eq_false fun h => h0 h.1]; go_enter Tryz.func81, Tryz.ntmps81
    repeat' (first | go_values | go_skip | go_guarded | go_step | go_upon)
    go_ret; exact ⟨rfl, rfl⟩
def oneB (b : Bool) (n : Nat) : Bool := !b && decide (n = 1)
set_option maxRecDepth 20000 in
set_option maxHeartbeats 2000000 in
theorem isOne_any {w : World} (b : Bool) (A : Option Addr) (n c : Nat) :
    Calls Tryz.prog 102 #[.agg (ac b A n c).toArray] w fun e W => e = .returned (.bool (oneB b n)) ∧ Below w.heap.size w W := by
  have HB := Lib.hid (BX.start w)
  cases b with
  | true =>
    rw [show oneB true n = false from rfl]; go_enter Tryz.func102, Tryz.ntmps102
    repeat' (first | ((with_reducible show Oper.wp _ _ _ _ _ _); (first | (refine bx_a HB _ rfl rfl ?_; clear HB; intro g0 W HB; go_simp) | (refine lf_bool 0 HB rfl _ rfl rfl rfl ?_; go_simp))) | go_values | go_skip | go_guarded | go_step | go_upon)
    go_ret; exact ⟨rfl, HB.out.bel⟩
  | false =>
    rw [show oneB false n = decide (n = 1) from by simp [oneB]]; have hd : ((n : Int) == 1) = decide (n = 1) := by rw [Bool.eq_iff_iff]; simp; omega
    generalize decide (n = 1) = q at *; go_enter Tryz.func102, Tryz.ntmps102
    repeat' (first | ((with_reducible show Oper.wp _ _ _ _ _ _); (first | (refine bx_a HB _ rfl rfl ?_; clear HB; intro g0 W HB; go_simp) | ((first | refine lf_bool 0 HB rfl _ rfl rfl rfl ?_ | refine lf_vals 0 HB rfl _ rfl rfl rfl ?_); go_simp))) | go_values | go_skip | go_guarded | go_step | go_upon)
    go_ret; exact ⟨rfl, HB.out.bel⟩
end Go.Proofs.YtngkolcpbgibcaaGreatDoor
namespace Go.Proofs.YtngkolcpbgibcaaGreatDoor
open Go.RowKit
theorem own_mono {w : World} {base base' : Nat} {e : TypeId} {k : Nat} {v : Value} {n : Nat} {xs : List Value} (h : w.ownsRow base e k v n xs) (hb : base' ≤ base) : w.ownsRow base' e k v n xs := by
  refine ⟨h.1, ?_⟩
  rcases h.2 with h2 | ⟨g, cap, cur, hv, hg, r⟩
  · exact .inl h2
  · exact .inr ⟨g, cap, cur, hv, by omega, r⟩
theorem addr_zero (g k : Nat) : (⟨g, 0, none⟩ : Addr).add k = ⟨g, k, none⟩ := by unfold Addr.add; split <;> simp_all
def Move (w : World) (F : Nat → Prop) (w' : World) (F' : Nat → Prop) : Prop := ∀ i, F i → F' i ∧ w'.heap[i]? = w.heap[i]?
section
variable {w w' w'' : World} {F F' F'' : Nat → Prop} {B : Nat}
theorem Move.cell (h : Move w F w' F') {p : Addr} (hp : F p.block) : w'.cell? p = w.cell? p := World.cell?_of_block (w := w) (h p.block hp).2
theorem Move.wide (hF : ∀ i, F i → F' i) : Move w F w F' := fun i hi => ⟨hF i hi, rfl⟩
theorem Move.trans (h : Move w F w' F') (h' : Move w' F' w'' F'') : Move w F w'' F'' := fun i hi => ⟨(h' i (h i hi).1).1, (h' i (h i hi).1).2.trans (h i hi).2⟩
theorem Move.of_below (hb : Below B w w') (hF : ∀ i, F i → i < B) (hF' : ∀ i, F i → F' i) : Move w F w' F' := fun i hi => ⟨hF' i hi, hb.block i (hF i hi)⟩
theorem Keep.move {T : Nat → Prop} (h : Keep T w w') (hF : ∀ i, F i → i < w.heap.size ∧ ¬ T i) (hF' : ∀ i, F i → F' i) : Move w F w' F' := fun i hi => ⟨hF' i hi, h.block i (hF i hi).1 (hF i hi).2⟩
structure RdF (w : World) (F : Nat → Prop) (k : Nat) (A : Option Addr) (n : Nat) (xs : List Value) : Prop where
  len : xs.length = n * k
  at_ : 0 < n → ∃ a, A = some a ∧ F a.block ∧ ∀ j u, xs[j]? = some u → w.cell? (a.add j) = some u
variable {k n : Nat} {A : Option Addr} {xs : List Value}
theorem RdF.move (h : RdF w F k A n xs) (hm : Move w F w' F') : RdF w' F' k A n xs := by
  refine ⟨h.len, fun hn => ?_⟩; obtain ⟨a, e, hb, hc⟩ := h.at_ hn; exact ⟨a, e, (hm _ hb).1, fun j u hu => by rw [hm.cell (by rw [add_block]; exact hb)]; exact hc j u hu⟩
theorem RdF.rd (h : RdF w F k A n xs) (hF : ∀ i, F i → i < B) : Rd w B k A n xs := by
  refine ⟨h.len, fun hn => ?_⟩; obtain ⟨a, e, hb, hc⟩ := h.at_ hn; exact ⟨a, e, hF _ hb, hc⟩
theorem own_rdF {base : Nat} {e : TypeId} {v : Value} (h : w.ownsRow base e k v n xs) (hF : ∀ i, v.ownBlock = some i → F i) : ∃ A c, v = .slice A n c ∧ n ≤ c ∧ RdF w F k A n xs := by
  rcases h.2 with ⟨rfl, rfl⟩ | ⟨g, cap, cur, rfl, hb, hg, hnc, hm, hs, ht⟩
  · exact ⟨none, 0, rfl, Nat.le_refl _, h.1, fun h => absurd h (by omega)⟩
  · exact ⟨_, cap, rfl, hnc, h.1, fun hn => ⟨_, rfl, hF g rfl, h.cells (g := g) rfl⟩⟩
end
structure Form (α : Type) where
  k : Nat
  R : World → (Nat → Prop) → List Value → α → Prop
  len : ∀ {w F cs x}, R w F cs x → cs.length = k
  move : ∀ {w F w' F' cs x}, Move w F w' F' → R w F cs x → R w' F' cs x
section
variable {α : Type} {f : Form α} {w w' : World} {F F' : Nat → Prop} {A : Option Addr} {n : Nat} {L : List α}
structure RowF (f : Form α) (w : World) (F : Nat → Prop) (A : Option Addr) (n : Nat) (L : List α) : Prop where
  len : L.length = n
  at_ : 0 < n → ∃ a, A = some a ∧ F a.block ∧ ∀ (i : Nat) (x : α), L[i]? = some x → ∃ cs, f.R w F cs x ∧ ∀ j u, cs[j]? = some u → w.cell? (a.add (i * f.k + j)) = some u
theorem RowF.nil (f : Form α) (w : World) (F : Nat → Prop) (A : Option Addr) : RowF f w F A 0 [] := ⟨rfl, fun h => absurd h (by omega)⟩
theorem RowF.move (h : RowF f w F A n L) (hm : Move w F w' F') : RowF f w' F' A n L := by
  refine ⟨h.len, fun hn => ?_⟩; obtain ⟨a, e, hb, hc⟩ := h.at_ hn; refine ⟨a, e, (hm _ hb).1, fun i x hi => ?_⟩; obtain ⟨cs, h1, h2⟩ := hc i x hi; exact ⟨cs, f.move hm h1, fun j u hu => by rw [hm.cell (by rw [add_block]; exact hb)]; exact h2 j u hu⟩
theorem RowF.below {B B' : Nat} (h : RowF f w (· < B) A n L) (hb : Below B' w w') (hB : B ≤ B') : RowF f w' (· < B) A n L := h.move (Move.of_below hb (fun i hi => by omega) fun i hi => hi)
theorem RowF.mono {B B' : Nat} (h : RowF f w (· < B) A n L) (hB : B ≤ B') : RowF f w (· < B') A n L := h.move (Move.wide fun i hi => by omega)
theorem flat_get {S : List (List Value × α)} {k : Nat} : (∀ p ∈ S, p.1.length = k) → ∀ {i : Nat} {p : List Value × α}, S[i]? = some p → ∀ {j : Nat} {u : Value}, p.1[j]? = some u → (S.flatMap (·.1))[i * k + j]? = some u := by
  induction S with
  | nil => intro _ i p h; simp at h
  | cons q S ih =>
    intro h i p hi j u hu; have h1 := h q (List.mem_cons_self ..); simp only [List.flatMap_cons]
    cases i with
    | zero =>
      simp only [List.getElem?_cons_zero, Option.some.injEq] at hi; subst hi; have hj : j < q.1.length := (List.getElem?_eq_some_iff.1 hu).1; rw [List.getElem?_append_left (by omega)]
      simpa using hu
    | succ i =>
      simp only [List.getElem?_cons_succ] at hi; have e : (i + 1) * k + j = k + (i * k + j) := by rw [Nat.add_mul]; omega
      rw [List.getElem?_append_right (by omega), h1, e, Nat.add_sub_cancel_left]; exact ih (fun q hq => h q (List.mem_cons_of_mem _ hq)) hi hu
structure OwnF (f : Form α) (w : World) (F : Nat → Prop) (base : Nat) (e : TypeId) (v : Value) (L : List α) : Prop where
  ex : ∃ S : List (List Value × α), S.map (·.2) = L ∧ (∀ p ∈ S, f.R w F p.1 p.2) ∧ w.ownsRow base e f.k v L.length (S.flatMap (·.1))
variable {base : Nat} {e : TypeId} {v v' : Value}
theorem OwnF.nil (f : Form α) (w : World) (F : Nat → Prop) (base : Nat) (e : TypeId) : OwnF f w F base e (.slice none 0 0) [] := ⟨[], rfl, by simp, World.ownsRow_nil _ _ _ _⟩
theorem OwnF.lt (h : OwnF f w F base e v L) : ∀ k, v.ownBlock = some k → base ≤ k ∧ k < w.heap.size := by
  obtain ⟨S, _, _, ho⟩ := h.ex; exact ho.lt
theorem OwnF.mono {base' : Nat} (h : OwnF f w F base e v L) (hb : base' ≤ base) : OwnF f w F base' e v L := by
  obtain ⟨S, h1, h2, ho⟩ := h.ex; exact ⟨S, h1, h2, own_mono ho hb⟩
theorem OwnF.keep {T : Nat → Prop} (h : OwnF f w F base e v L) (hK : Keep T w w') (hT : ∀ i, v.ownBlock = some i → ¬ T i) (hm : Move w F w' F') : OwnF f w' F' base e v L := by
  obtain ⟨S, h1, h2, ho⟩ := h.ex; exact ⟨S, h1, fun p hp => f.move hm (h2 p hp), hK.own ho hT⟩
theorem OwnF.snoc {S : List (List Value × α)} {cs : List Value} {x : α} (h1 : S.map (·.2) = L) (h2 : ∀ p ∈ S, f.R w F p.1 p.2) (hm : Move w F w' F') (hx : f.R w' F' cs x)
    (ho : w'.ownsRow base e f.k v' (L.length + 1) (S.flatMap (·.1) ++ cs)) : OwnF f w' F' base e v' (L ++ [x]) := by
  refine ⟨S ++ [(cs, x)], by simp [h1], fun p hp => ?_, by simpa using ho⟩
  rcases List.mem_append.1 hp with hp | hp
  · exact f.move hm (h2 p hp)
  · simp at hp; subst hp; exact hx
theorem OwnF.form (h : OwnF f w F base e v L) : ∃ A c, v = .slice A L.length c ∧ L.length ≤ c := by
  obtain ⟨S, h1, h2, ho⟩ := h.ex; obtain ⟨A, c, rfl, hc, _⟩ := own_rdF (F := fun _ => True) ho fun _ _ => trivial; exact ⟨A, c, rfl, hc⟩
theorem OwnF.read (h : OwnF f w F base e v L) (hv : ∀ i, v.ownBlock = some i → F' i) (hF : ∀ i, F i → F' i) : ∃ A c, v = .slice A L.length c ∧ L.length ≤ c ∧ RowF f w F' A L.length L := by
  obtain ⟨S, h1, h2, ho⟩ := h.ex; obtain ⟨A, c, rfl, hc, hr⟩ := own_rdF ho hv; refine ⟨A, c, rfl, hc, rfl, fun hn => ?_⟩; obtain ⟨a, rfl, hb, hcell⟩ := hr.at_ hn; refine ⟨a, rfl, hb, fun i x hi => ?_⟩; rw [← h1, List.getElem?_map, Option.map_eq_some_iff] at hi; obtain ⟨p, hp, rfl⟩ := hi; have hp' := h2 p (List.mem_of_getElem? hp); exact ⟨p.1, f.move (Move.wide hF) hp', fun j u hu => hcell _ u (flat_get (fun q hq => f.len (h2 q hq)) hp hu)⟩
end
def But (w : World) (M : Nat → Prop) (i : Nat) : Prop := i < w.heap.size ∧ ¬ M i
theorem But.move {w w' : World} {M M' T : Nat → Prop} (h : Keep T w w') (hT : ∀ i, i < w.heap.size → T i → M i) (hM : ∀ i, i < w.heap.size → M' i → M i) : Move w (But w M) w' (But w' M') :=
  h.move (fun i hi => ⟨hi.1, fun ht => hi.2 (hT i hi.1 ht)⟩) fun i hi => ⟨Nat.lt_of_lt_of_le hi.1 h.size, fun hm => hi.2 (hM i hi.1 hm)⟩
end Go.Proofs.YtngkolcpbgibcaaGreatDoor
namespace Go.Proofs.YtngkolcpbgibcaaGreatDoor
open Go.RowKit
section
variable {P : Program} {S : World → Prop} {E : World → World → Prop} {R : Value → World → Prop} {w w' : World} {o : Oper} {a : Act} {v : Value}
theorem lands_v (h : (execOp a.eval o).run P w = .ok (.value v) w') (hR : R v w' ∧ S w' ∧ E w w') : Lands P S E R w ((execOp a.eval o).run P w) := by
  rw [h]; exact hR
end
theorem rtV {v : VX} : RowT 32 (vc v).length := by rw [vc_len]; exact rtVal
def SBN (w : World) : List Bxs → List Value → World → Prop
  | [], _, _ => False
  | [B], _, W => BX w B W
  | B :: _ :: _, [], W => BX w B W
  | _ :: B :: Bs, _ :: vals, W => SBN w (B :: Bs) vals W
def AllGet (i : Nat) (x : Nat × TypeId × List Value) : List Bxs → Prop
  | [] => True
  | B :: Bs => B[i]? = some x ∧ AllGet i x Bs
theorem SBN.any {w W : World} : ∀ {Bs : List Bxs} {vals : List Value}, SBN w Bs vals W → ∃ B ∈ Bs, BX w B W
  | [], _, h => h.elim
  | [B], _, h => ⟨B, List.mem_cons_self .., h⟩
  | B :: _ :: _, [], h => ⟨B, List.mem_cons_self .., h⟩
  | _ :: B :: Bs, _ :: vals, h => by
    obtain ⟨C, hC, hb⟩ := SBN.any (Bs := B :: Bs) (vals := vals) h; exact ⟨C, List.mem_cons_of_mem _ hC, hb⟩
theorem allGet_mem {i : Nat} {x : Nat × TypeId × List Value} : ∀ {Bs : List Bxs}, AllGet i x Bs → ∀ B ∈ Bs, B[i]? = some x
  | B :: Bs, h, C, hC => by
    rcases List.mem_cons.1 hC with rfl | hC
    · exact h.1
    · exact allGet_mem h.2 C hC
section
variable {w W W' : World} {vals : List Value} {g i : Nat} {ty : TypeId} {cs vs : List Value}
theorem SBN.call : ∀ {Bs : List Bxs} {vals : List Value}, SBN w Bs vals W → Below W.heap.size W W' → SBN w Bs vals W'
  | [], _, h, _ => h.elim
  | [B], _, h, hb => BX.call h hb
  | B :: _ :: _, [], h, hb => BX.call h hb
  | _ :: B :: Bs, _ :: vals, h, hb => SBN.call (Bs := B :: Bs) (vals := vals) h hb
theorem SBN.bel {Bs : List Bxs} (h : SBN w Bs vals W) : Below w.heap.size w W := by
  obtain ⟨B, -, hb⟩ := h.any; exact hb.bel
theorem SBN.get {Bs : List Bxs} (h : SBN w Bs vals W) (i : Nat) (hi : AllGet i (g, ty, cs) Bs) : Bk W g ty cs.toArray := by
  obtain ⟨B, hB, hb⟩ := h.any; exact hb.get (allGet_mem hi B hB)
end
section
variable {o : Oper} {a : Act} {w W : World} {g i : Nat} {ty : TypeId} {cs vs : List Value} {bs : Bxs}
theorem run_ldm (T : RowT ty cs.length) {q : Addr} (hb : ∀ (j : Nat) (u : Value), cs[j]? = some u → W.cell? (q.add j) = some u) (x : Operand) (ho : o.op = .load ty x) (hx : a.eval x = .pointer (some q)) :
    (execOp a.eval o).run Tryz.prog W = .ok (.value (.agg cs.toArray)) W := by
  obtain ⟨d, hu, hd⟩ := T.und; unfold execOp; simp only [ho, hx, Instr.loadAt, Instr.sureAddr, Sem.run_bind, Sem.run_pure, Result.andThen_ok, load_any W q _ cs _ hb hu hd T.size]
theorem run_ldg (T : RowT ty cs.length) (hb : Bk W g ty cs.toArray) (x : Operand) (ho : o.op = .load ty x) (hx : a.eval x = .pointer (some ⟨g, 0, none⟩)) :
    (execOp a.eval o).run Tryz.prog W = .ok (.value (.agg cs.toArray)) W :=
  run_ldm T (fun j u hu => by
    have e : (⟨g, 0, none⟩ : Addr).add j = ⟨g, j, none⟩ := by unfold Addr.add; split <;> simp_all
    rw [e, hb.cell]; simpa using hu) x ho hx
theorem lands_stg {S : World → Prop} {E : World → World → Prop} {R : Value → World → Prop} (T : RowT ty vs.length) (h1 : ∀ u ∈ vs, u.oneCell' = true) (H : BX w bs W) (hi : bs[i]? = some (g, ty, cs)) (hl : cs.length = vs.length) (x y : Operand) (ho : o.op = .store ty x y) (hx : a.eval x = .pointer (some ⟨g, 0, none⟩)) (hy : a.eval y = .agg vs.toArray)
    (h : ∀ W', BX w (bs.set i (g, ty, vs)) W' → R undef W' ∧ S W' ∧ E W W') : Lands Tryz.prog S E R W ((execOp a.eval o).run Tryz.prog W) := by
  have hb := H.get hi
  have ht : W.there g 0 vs.toArray.size := fun j hj => by
    rw [List.size_toArray] at hj; rw [Nat.zero_add, hb.cell, hb.frozen]; exact ⟨by simp; omega, rfl⟩
  have hr : (execOp a.eval o).run Tryz.prog W = .ok .skip (W.setCells g 0 vs) := by
    unfold execOp; simp only [ho, hx, hy, Instr.storeAt, Instr.sureAddr, Sem.run_bind, Sem.run_pure, Result.andThen_ok, run_storeVar_mid W g 0 ty vs.toArray ht (by rw [List.size_toArray]; exact T.size) (all_oneCell_toArray h1)]
  rw [hr]; have h2 := setCells_bk vs 0 cs W hb (by omega); have e : cs.take 0 ++ vs ++ cs.drop (0 + vs.length) = vs := by simp [List.drop_eq_nil_of_le (Nat.le_of_eq hl)]
  rw [e] at h2; exact h _ (H.turn hi h2 (setCells_keep _ _ _))
end
def valF : Form VX where
  k := 6
  R _ _ cs x := cs = vc x
  len h := by rw [h]; exact vc_len _
  move _ h := h
def argF : Form (Bool × List VX) where
  k := 2
  R w F cs a := ∃ A c, cs = ac a.1 A a.2.length c ∧ a.2.length ≤ c ∧ RowF valF w F A a.2.length a.2
  len h := by obtain ⟨A, c, rfl, -⟩ := h; rfl
  move hm h := by obtain ⟨A, c, h1, h2, h3⟩ := h; exact ⟨A, c, h1, h2, h3.move hm⟩
theorem vals_at {W : World} {F : Nat → Prop} {A : Option Addr} {n i : Nat} {l : List VX} {x : VX} (h : RowF valF W F A n l) (hi : l[i]? = some x) :
    ∃ a, A = some a ∧ F a.block ∧ ∀ (j : Nat) (u : Value), (vc x)[j]? = some u → W.cell? ((a.add (i * 6)).add j) = some u := by
  have hn : 0 < n := by rw [← h.len]; have := (List.getElem?_eq_some_iff.1 hi).1; omega
  obtain ⟨a, rfl, hb, hc⟩ := h.at_ hn; obtain ⟨cs, rfl, hcell⟩ := hc i x hi; exact ⟨a, rfl, hb, fun j u hu => by rw [add_add]; exact hcell j u hu⟩
end Go.Proofs.YtngkolcpbgibcaaGreatDoor
