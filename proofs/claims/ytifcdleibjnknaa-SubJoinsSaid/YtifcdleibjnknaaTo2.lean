/- cashbooklaw2.To by its contract: a substream, its records copied. Conditions: the records read as such; there are no more than 10^9. -/
import Derived.Test.YtifcdleibjnknaaJoin
import Derived.Test.YtifcdleibjnknaaPhase
namespace Go.Proofs.Ytifcdleibjnknaa
open Go.RowKit

theorem RecsOwn.rowF {w : World} {base : Nat} {v : Value} {S : List Item} (h : RecsOwn w base v S) (hfit : ∀ x ∈ S, Fit x.r.type ∧ x.r.data.length ≤ 1000000000000000000 ∧ x.r.cuts.length ≤ 1000000000000000000) :
    ∃ A c, v = .slice A S.length c ∧ S.length ≤ c ∧ RowF recForm w (fun i => base ≤ i ∧ i < w.heap.size) A S.length (S.map (·.r)) := by
  obtain ⟨A, c, rfl, hc, hr⟩ := own_rdF (F := fun i => base ≤ i ∧ i < w.heap.size) h.row fun i hi => h.row.lt i hi
  refine ⟨A, c, rfl, hc, by simp, fun hn => ?_⟩
  obtain ⟨a, rfl, hb, hcell⟩ := hr.at_ hn
  refine ⟨a, rfl, hb, fun i r hi => ?_⟩
  rw [List.getElem?_map, Option.map_eq_some_iff] at hi
  obtain ⟨x, hx, rfl⟩ := hi
  have hxm : x ∈ S := List.mem_of_getElem? hx
  obtain ⟨D, dc, hd, hdc, rd⟩ := own_rdF (F := fun i => base ≤ i ∧ i < w.heap.size) (h.data x hxm) fun i hi => (h.data x hxm).lt i hi
  obtain ⟨C, cc, hcu, hcc, rc⟩ := own_rdF (F := fun i => base ≤ i ∧ i < w.heap.size) (h.cuts x hxm) fun i hi => (h.cuts x hxm).lt i hi
  obtain ⟨f0, f1, f2⟩ := hfit x hxm
  obtain ⟨e0, e1, e2, e3⟩ := rowOf_get hx
  refine ⟨[.int .i64 x.r.type, x.d, x.c, .int .i64 x.r.at_], ⟨D, dc, C, cc, by rw [hd, hcu], rd, rc, ⟨hdc, f1⟩, ⟨hcc, f2⟩, f0⟩, fun j u hu => ?_⟩
  match j, hu with
  | 0, hu => simp at hu; subst hu; exact hcell _ _ e0
  | 1, hu => simp at hu; subst hu; exact hcell _ _ e1
  | 2, hu => simp at hu; subst hu; exact hcell _ _ e2
  | 3, hu => simp at hu; subst hu; exact hcell _ _ e3
  | j + 4, hu => simp at hu

def From (R : Nat) (W : World) (i : Nat) : Prop := R + 1 ≤ i ∧ i < W.heap.size
def To2F (R n : Nat) (L : List RecM) : Value → World → Prop := fun v W => ∃ A c, v = .slice A n c ∧ n ≤ c ∧ RowF recForm W (From R W) A n L
def To2G (R : Nat) (kind : Int) (n : Nat) (L : List RecM) : Value → World → Prop := fun v W => ∃ A c, v = .agg #[.int .i64 kind, .slice A n c] ∧ n ≤ c ∧ RowF recForm W (From R W) A n L

theorem from_move {R : Nat} {W W' : World} (h : Keep (fun i => i = R) W W') : Move W (From R W) W' (From R W') := h.move (fun i hi => ⟨hi.2, by have := hi.1; omega⟩) fun i hi => ⟨hi.1, Nat.lt_of_lt_of_le hi.2 h.size⟩
theorem to2_stable {R n : Nat} {L : List RecM} : Stable (fun W W' => Keep (fun i => i = R) W W') (To2F R n L) := fun _ _ _ hE h => by
  obtain ⟨A, c, rfl, hc, hr⟩ := h
  exact ⟨A, c, rfl, hc, hr.move (from_move hE)⟩
theorem to2g_stable {R n : Nat} {kind : Int} {L : List RecM} : Stable (fun W W' => Keep (fun i => i = R) W W') (To2G R kind n L) := fun _ _ _ hE h => by
  obtain ⟨A, c, rfl, hc, hr⟩ := h
  exact ⟨A, c, rfl, hc, hr.move (from_move hE)⟩

def To2S (w : World) (kind : Int) (A : Option Addr) (n c : Nat) (L : List RecM) : List Value → World → Prop
  | [], W => Below w.heap.size w W ∧ Bk W w.heap.size 39 #[.int .i64 kind, .slice A n c] ∧ ∃ u0 u1, Bk W (w.heap.size + 1) 41 #[u0, u1]
  | _ :: _, W => Below w.heap.size w W ∧ Bk W w.heap.size 39 #[.int .i64 kind, .slice A n c] ∧ ∃ A' c', Bk W (w.heap.size + 1) 41 #[.int .i64 kind, .slice A' n c'] ∧ n ≤ c' ∧ RowF recForm W (From (w.heap.size + 1) W) A' n L

section
variable {w W W' : World} {kind : Int} {A : Option Addr} {n c : Nat} {L : List RecM} {vals : List Value}
theorem To2S.bel (h : To2S w kind A n c L vals W) : Below w.heap.size w W := by
  match vals, h with
  | [], h => exact h.1
  | _ :: _, h => exact h.1
theorem To2S.box (h : To2S w kind A n c L vals W) : Bk W w.heap.size 39 #[.int .i64 kind, .slice A n c] := by
  match vals, h with
  | [], h => exact h.2.1
  | _ :: _, h => exact h.2.1
theorem To2S.size (h : To2S w kind A n c L vals W) : w.heap.size + 2 ≤ W.heap.size := by
  match vals, h with
  | [], h => obtain ⟨_, _, hk⟩ := h.2.2; exact hk.lt
  | _ :: _, h => obtain ⟨_, _, hk, _⟩ := h.2.2; exact hk.lt
theorem To2S.below (h : To2S w kind A n c L vals W) (hb : Below W.heap.size W W') : To2S w kind A n c L vals W' := by
  have hs := h.size
  match vals, h with
  | [], h =>
    obtain ⟨h1, h2, u0, u1, h3⟩ := h
    exact ⟨h1.trans (hb.mono (by omega)), h2.below hb h2.lt, u0, u1, h3.below hb h3.lt⟩
  | _ :: _, h =>
    obtain ⟨h1, h2, A', c', h3, h4, h5⟩ := h
    exact ⟨h1.trans (hb.mono (by omega)), h2.below hb h2.lt, A', c', h3.below hb h3.lt, h4, h5.move (Move.of_below hb (fun i hi => hi.2) fun i hi => ⟨hi.1, by have := hb.size; have := hi.2; omega⟩)⟩
theorem To2S.stored {u0 u1 : Value} {Av : Option Addr} {vc : Nat} (h : To2S w kind A n c L [] W) (hk : Bk W (w.heap.size + 1) 41 #[u0, u1]) (hc : n ≤ vc) (hr : RowF recForm W (From (w.heap.size + 1) W) Av n L) :
    To2S w kind A n c L [undef] ((W.setCell ⟨w.heap.size + 1, 0, none⟩ (.int .i64 kind)).setCell ⟨w.heap.size + 1, 1, none⟩ (.slice Av n vc)) ∧ Keep (fun i => i = w.heap.size + 1) W ((W.setCell ⟨w.heap.size + 1, 0, none⟩ (.int .i64 kind)).setCell ⟨w.heap.size + 1, 1, none⟩ (.slice Av n vc)) := by
  have kk : Keep (fun i => i = w.heap.size + 1) W ((W.setCell ⟨w.heap.size + 1, 0, none⟩ (.int .i64 kind)).setCell ⟨w.heap.size + 1, 1, none⟩ (.slice Av n vc)) :=
    (Keep.setCell (S := fun i => i = w.heap.size + 1) (Keep.refl _ _) (p := ⟨w.heap.size + 1, 0, none⟩) (fun _ => rfl) _).setCell (p := ⟨w.heap.size + 1, 1, none⟩) (fun _ => rfl) _
  have kb := (hk.set_ 0 (.int .i64 kind)).set_ 1 (.slice Av n vc)
  have hs := h.size
  refine ⟨⟨h.bel.trans (kk.below (by omega) fun i hi e => by omega), kk.bk h.box (by omega), Av, vc, ?_, hc, hr.move (from_move kk)⟩, kk⟩
  simpa using kb
end

set_option maxHeartbeats 4000000 in
theorem to2_any {w : World} {B n c : Nat} {A : Option Addr} {kind : Int} {L : List RecM} (h : RecsRd w B A n L) (hB : B ≤ w.heap.size) (hn : n ≤ 1000000000) (hL : ∀ r ∈ L, Wide r) :
    Calls Try.prog 14 #[.agg #[.int .i64 kind, .slice A n c]] w fun e w' => ∃ A' c', e = .returned (.agg #[.int .i64 kind, .slice A' n c']) ∧ n ≤ c' ∧ RowF recForm w' (From w.heap.size w') A' n L ∧ Below w.heap.size w w' := by
  have hll := h.len
  have hfit := h.mem
  go_enter Try.func14, Try.ntmps14
  go_wp2_with fail
  have hI : To2S w kind A n c L [] ((w.alloc (.cells #[.int .i64 kind, .slice A n c] 39)).alloc (.cells #[.int .i64 0, .slice none 0 0] 41)) :=
    ⟨((Below.refl _ _).alloc (Nat.le_refl _) _).alloc (by simp) _, (Bk.new w _ _).alloc _, _, _, by simpa using Bk.new (w.alloc _) 41 _⟩
  refine wp_region_phases (S := To2S w kind A n c L) (E := fun W W' => Keep (fun i => i = w.heap.size + 1) W W') [6] [(1, Is (.pointer (some ⟨w.heap.size, 0, none⟩))), (2, Is (.pointer (some ⟨w.heap.size + 1, 0, none⟩)))] [(3, Is (.pointer (some ⟨w.heap.size, 0, none⟩))), (4, Is (.int .i64 kind)), (5, Is (.pointer (some ⟨w.heap.size, 1, none⟩))), (6, Is (.slice A n c)), (7, To2F (w.heap.size + 1) n L), (8, To2G (w.heap.size + 1) kind n L)]
    [.op [1] none, .op [3] none, .op [1] none, .op [5] none, .op [6] none, .op [4, 7] none, .phase 0 [2, 8] []] (by as_aux_lemma => kernel_rfl) ?_ ?_ ?_ ?_ ?_ ⟨stable_is _ _, stable_is _ _, stable_is _ _, stable_is _ _, stable_is _ _, stable_is _ _, to2_stable, to2g_stable, trivial⟩ ?_ (To2S.below hI (Below.refl _ _).drew) ?_ ?_
  · as_aux_lemma => kernel_rfl
  · as_aux_lemma => kernel_rfl
  · as_aux_lemma => kernel_rfl
  · as_aux_lemma => kernel_rfl
  · as_aux_lemma => kernel_rfl
  · exact ⟨rfl, by simp [Is], trivial⟩
  · refine ⟨?_, ?_, ?_, ?_, ?_, ?_, ?_, trivial⟩
    · as_aux_lemma =>
        intro vals a W hS hL
        have e1 : a.tmps.getD 1 undef = .pointer (some ⟨w.heap.size, 0, none⟩) := hL.1
        clear hL
        go_simp
        exact ⟨⟨fun d hd => by injection hd with hd; subst hd; rfl, fun h => by cases h⟩, hS, Keep.refl _ _⟩
    · as_aux_lemma =>
        intro vals a W hS hL
        have e3 : a.tmps.getD 3 undef = .pointer (some ⟨w.heap.size, 0, none⟩) := hL.1
        clear hL
        have hbx := To2S.box hS
        have f0 : W.cell? ⟨w.heap.size, 0, none⟩ = some (.int .i64 kind) := hbx.cell 0
        have f1 : W.cell? ⟨w.heap.size, 1, none⟩ = some (.slice A n c) := hbx.cell 1
        go_simp
        exact ⟨⟨fun d hd => by injection hd with hd; subst hd; rfl, fun h => by cases h⟩, hS, Keep.refl _ _⟩
    · as_aux_lemma =>
        intro vals a W hS hL
        have e1 : a.tmps.getD 1 undef = .pointer (some ⟨w.heap.size, 0, none⟩) := hL.1
        clear hL
        go_simp
        exact ⟨⟨fun d hd => by injection hd with hd; subst hd; rfl, fun h => by cases h⟩, hS, Keep.refl _ _⟩
    · as_aux_lemma =>
        intro vals a W hS hL
        have e5 : a.tmps.getD 5 undef = .pointer (some ⟨w.heap.size, 1, none⟩) := hL.1
        clear hL
        have hbx := To2S.box hS
        have f0 : W.cell? ⟨w.heap.size, 0, none⟩ = some (.int .i64 kind) := hbx.cell 0
        have f1 : W.cell? ⟨w.heap.size, 1, none⟩ = some (.slice A n c) := hbx.cell 1
        go_simp
        exact ⟨⟨fun d hd => by injection hd with hd; subst hd; rfl, fun h => by cases h⟩, hS, Keep.refl _ _⟩
    · as_aux_lemma =>
        intro vals a W hS hL
        have e6 : a.tmps.getD 6 undef = .slice A n c := hL.1
        clear hL
        have hbw := To2S.bel hS
        have hsz := To2S.size hS
        go_simp
        refine (toAll_any (h.below hbw hB) (by omega) hn hL).mono ?_
        rintro e W' ⟨v', S, rfl, ho, hm, hb⟩
        obtain ⟨Av, vc, rfl, hvc, hr⟩ := ho.rowF (fun x hx => hfit x.r (by rw [← hm]; exact List.mem_map_of_mem hx))
        rw [hm] at hr
        have hSl : S.length = n := by rw [← hm, List.length_map] at hll; exact hll
        rw [hSl] at hr hvc ⊢
        exact ⟨_, rfl, ⟨fun d hd => by injection hd with hd; subst hd; exact ⟨Av, vc, rfl, hvc, hr.move (Move.wide fun i hi => ⟨by omega, hi.2⟩)⟩, fun h => by cases h⟩, To2S.below hS hb, Keep.of_below hb fun q hq h => by omega⟩
    · as_aux_lemma =>
        intro vals a W hS hL
        have e4 : a.tmps.getD 4 undef = .int .i64 kind := hL.1
        have e7 := hL.2.1
        clear hL
        obtain ⟨Av, vc, e7, hvc, hr⟩ := e7
        rw [Array.getD_eq_getD_getElem?] at e4 e7
        go_simp
        exact ⟨⟨fun d hd => by injection hd with hd; subst hd; exact ⟨Av, vc, rfl, hvc, hr⟩, fun h => by cases h⟩, hS, Keep.refl _ _⟩
    · as_aux_lemma =>
        intro a W vals hv hS hL hp
        have e2 : a.tmps.getD 2 undef = .pointer (some ⟨w.heap.size + 1, 0, none⟩) := hL.1
        have e8 := hL.2.1
        clear hL
        obtain ⟨Av, vc, e8, hvc, hr⟩ := e8
        match vals, hv, hS with
        | [], _, hS =>
          obtain ⟨u0, u1, hk⟩ := hS.2.2
          have q0 : W.cell? ⟨w.heap.size + 1, 0, none⟩ = some u0 := hk.cell 0
          have q1 : W.cell? ⟨w.heap.size + 1, 1, none⟩ = some u1 := hk.cell 1
          have z0 := hk.frozen 0
          have z1 := hk.frozen 1
          obtain ⟨hfin, hE⟩ := To2S.stored hS hk hvc hr
          rw [Array.getD_eq_getD_getElem?] at e8
          clear hS hk
          go_simp
          exact ⟨hfin, trivial, hE⟩
  · intro a W vals hd hsz hT hF hv _ hS
    obtain ⟨u, rfl⟩ : ∃ u, vals = [u] := by
      match vals, hv with
      | [u], _ => exact ⟨u, rfl⟩
    have e2 : a.tmps.getD 2 undef = .pointer (some ⟨w.heap.size + 1, 0, none⟩) := hT 2 (by simp)
    obtain ⟨h1, _, A', c', hk, hc', hr⟩ := hS
    have r0 : W.cell? ⟨w.heap.size + 1, 0, none⟩ = some (.int .i64 kind) := hk.cell 0
    have r1 : W.cell? ⟨w.heap.size + 1, 1, none⟩ = some (.slice A' n c') := hk.cell 1
    go_wp2
    refine bodyPost_ret (v := .agg #[.int .i64 kind, .slice A' n c']) ?_ hd ⟨_, _, rfl, hc', hr.move (Move.wide fun i hi => ⟨by have := hi.1; omega, hi.2⟩), h1⟩
    rw [Array.getD_eq_getD_getElem?] at e2
    simp [results, Try.results14, go_sem, e2, r0, r1]
end Go.Proofs.Ytifcdleibjnknaa
