/- LeWrites by its contract: it returns true. Condition: the bytes read as such. -/
import Derived.Test.YtlfnmcagpokchaaWritesPre
import Derived.Deep.CutRange
namespace Go.Proofs.Ytlfnmcagpokchaa
open Go.RowKit

/-- What a number's bytes behind l are, or that it does not fit. -/
def Fits (k : Int) (n s : Nat) (l L : List UInt8) (m : Nat) (e : Int) : Prop := (0 ≤ k ∧ k < ((256 ^ s : Nat) : Int) ∧ e = 0 ∧ m = n + s ∧ L = l ++ lowB k.toNat s) ∨ (¬ (0 ≤ k ∧ k < ((256 ^ s : Nat) : Int)) ∧ e = 1 ∧ m = n ∧ L = l)
def PutsF (w : World) (k : Int) (n s : Nat) (l : List UInt8) (e : Ending) (w' : World) : Prop := ∃ A m c e1 L, e = .returned (.tuple #[.slice A m c, .int .i64 e1]) ∧ m ≤ c ∧ Rd w' w'.heap.size 1 A m (L.map bv) ∧ Below w.heap.size w w' ∧ Hid (Fits k n s l L m e1)

theorem put16_f {w : World} {B n c : Nat} {A : Option Addr} {l : List UInt8} {k : Int} (h : Rd w B 1 A n (l.map bv)) (hB : B ≤ w.heap.size) (hn : n ≤ 1000) :
    Calls Try.prog 18 #[.slice A n c, .int .i64 k] w (PutsF w k n 2 l) := by
  by_cases hk : 0 ≤ k ∧ k < 65536
  · obtain ⟨q, rfl⟩ := Int.eq_ofNat_of_zero_le hk.1
    refine (put16_ok h hB hn (q := q) (by omega)).mono ?_
    rintro e w' ⟨A', c', rfl, hc, hr, hb⟩
    exact ⟨A', _, c', 0, _, rfl, hc, hr, hb, Lib.hid (.inl ⟨hk.1, hk.2, rfl, rfl, by simp⟩)⟩
  · refine (put16_no h hB hn hk).mono ?_
    rintro e w' ⟨A', c', rfl, hc, hr, hb⟩
    exact ⟨A', _, c', 1, _, rfl, hc, hr, hb, Lib.hid (.inr ⟨hk, rfl, rfl, rfl⟩)⟩
theorem put32_f {w : World} {B n c : Nat} {A : Option Addr} {l : List UInt8} {k : Int} (h : Rd w B 1 A n (l.map bv)) (hB : B ≤ w.heap.size) (hn : n ≤ 1000) :
    Calls Try.prog 19 #[.slice A n c, .int .i64 k] w (PutsF w k n 4 l) := by
  by_cases hk : 0 ≤ k ∧ k < 4294967296
  · obtain ⟨q, rfl⟩ := Int.eq_ofNat_of_zero_le hk.1
    refine (put32_ok h hB hn (q := q) (by omega)).mono ?_
    rintro e w' ⟨A', c', rfl, hc, hr, hb⟩
    exact ⟨A', _, c', 0, _, rfl, hc, hr, hb, Lib.hid (.inl ⟨hk.1, hk.2, rfl, rfl, by simp⟩)⟩
  · refine (put32_no h hB hn hk).mono ?_
    rintro e w' ⟨A', c', rfl, hc, hr, hb⟩
    exact ⟨A', _, c', 1, _, rfl, hc, hr, hb, Lib.hid (.inr ⟨hk, rfl, rfl, rfl⟩)⟩

/-- A slice that reads as bytes, and goes on to while nothing that is there turns. -/
def RowIs (m : Nat) (L : List UInt8) : Value → World → Prop := fun v W => ∃ A c b, v = .slice A m c ∧ b ≤ W.heap.size ∧ Rd W b 1 A m (L.map bv)
theorem rowIs_stable {m : Nat} {L : List UInt8} : Stable (fun W W' => Below W.heap.size W W') (RowIs m L) := fun _ _ _ hE h => by
  obtain ⟨A, c, b, rfl, hb, hr⟩ := h
  exact ⟨A, c, b, rfl, Nat.le_trans hb hE.size, hr.belowMono hE hb⟩

set_option maxHeartbeats 8000000 in
set_option maxRecDepth 100000 in
theorem writes_walk {w : World} {B n c : Nat} {a k2 k3 : Int} {A : Option Addr} {l : List UInt8} (h : Rd w B 1 A n (l.map bv)) (hB : B ≤ w.heap.size) (hn : n ≤ 200) (h30 : -9223372036854775808 ≤ k3) (h31 : k3 ≤ 9223372036854775807) :
    Calls Try.prog 4 #[.slice A n c, .int .i64 a, .int .i64 k2, .int .i64 k3] w fun e w' => e = .returned (.bool true) ∧ Below w.heap.size w w' := by
  have HL := Lib.hid h.blen
  go_enter Try.func4, Try.ntmps4
  go_wp2_with fail
  refine (known3_any w).mono ?_
  rintro e w0 ⟨rfl, hb0⟩
  have r0 := h.belowMono hb0 hB
  have z0 : B ≤ w0.heap.size := Nat.le_trans hB hb0.size
  go_wp2_with fail
  refine (put16_f r0 z0 (by omega)).mono ?_
  rintro e w1 ⟨A9, m9, c9, e9, L9, rfl, hc9, r9, hb1, HF9⟩
  have R0' := Lib.hid (r0.belowMono hb1 z0)
  have z1 : B ≤ w1.heap.size := Nat.le_trans z0 hb1.size
  have b1 := hb0.trans (hb1.mono hb0.size)
  clear r0 z0 hb0 hb1
  go_wp2_with fail
  refine (put32_f R0'.out z1 (by omega)).mono ?_
  rintro e w2 ⟨A11, m11, c11, e11, L11, rfl, hc11, r11, hb2, HF11⟩
  have R2 := Lib.hid (R0'.out.belowMono hb2 z1)
  have z2 : B ≤ w2.heap.size := Nat.le_trans z1 hb2.size
  have r9' := r9.below hb2
  have b2 := b1.trans (hb2.mono b1.size)
  have s12 := hb2.size
  clear R0' z1 b1 hb2 r9
  go_wp2_with fail
  refine (put64_ok R2.out z2 (by omega)).mono ?_
  rintro e w3 ⟨A13, c13, rfl, hc13, r13, hb3⟩
  have s23 := hb3.size
  have R := Lib.hid (R2.out.belowMono hb3 z2)
  have z3 : B ≤ w3.heap.size := Nat.le_trans z2 hb3.size
  have R9 := Lib.hid (r9'.belowMono hb3 s12)
  have R11 := Lib.hid (r11.below hb3)
  have R13 := Lib.hid r13
  have b3 := b2.trans (hb3.mono b2.size)
  have z9 : w1.heap.size ≤ w3.heap.size := Nat.le_trans s12 s23
  have b3z := b3.size
  clear R2 z2 r9' r11 r13 hb3 b2
  go_upto_region 8 with fail
  go_cut [62] from 23 (fun s62 wx => s62 = .bool false ∧ wx = w3)
  case first =>
    have q9 : (0 ≤ a ∧ a < 65536 ∧ e9 = 0) ∨ (a < 0 ∧ e9 = 1) ∨ (0 ≤ a ∧ 65536 ≤ a ∧ e9 = 1) := by
      rcases HF9.out with ⟨f0, f1, f2, -, -⟩ | ⟨f0, f2, -, -⟩ <;> omega
    have q11 : (0 ≤ k2 ∧ k2 < 4294967296 ∧ e11 = 0) ∨ (k2 < 0 ∧ e11 = 1) ∨ (0 ≤ k2 ∧ 4294967296 ≤ k2 ∧ e11 = 1) := by
      rcases HF11.out with ⟨f0, f1, f2, -, -⟩ | ⟨f0, f2, -, -⟩ <;> omega
    clear HF9 HF11
    rcases q9 with ⟨f0, f1, rfl⟩ | ⟨f0, rfl⟩ | ⟨f0, f1, rfl⟩ <;> rcases q11 with ⟨g0, g1, rfl⟩ | ⟨g0, rfl⟩ | ⟨g0, g1, rfl⟩
    all_goals
      go_wp2
      go_meet
      first
        | exact ⟨rfl, rfl⟩
        | exact ⟨by simp; omega, rfl⟩
  case rest =>
    obtain ⟨rfl, rfl⟩ := hcut
    obtain ⟨wA, rfl⟩ : ∃ wA, wA = wc := ⟨_, rfl⟩
    go_upto_if 64 with (fail)
    go_cut [14, 15, 16] from 23 (fun _ _ _ wx => Below wA.heap.size wA wx)
    case first =>
      rcases HF9.out with ⟨f0, f1, rfl, rfl, f4⟩ | ⟨f0, rfl, rfl, f3⟩
      · obtain ⟨q, rfl⟩ := Int.eq_ofNat_of_zero_le f0
        rw [Int.toNat_natCast] at f4
        subst f4
        have hq : q < 65536 := by have f1' : (q : Int) < 65536 := f1; omega
        have HQQ := Lib.hid (show IntKind.u64.wrap (q : Int) = (q : Int) from IntWalk.u64_in _ (by omega))
        clear HF9 f0 f1
        go_wp2_with fail
        refine (back16 R9.out hc9 (by omega) z9 HL.out hq).mono ?_
        rintro e w4 ⟨rfl, hb4⟩
        have KX := Lib.hid (Bk.new w4 25 #[.slice A9 (n + 2) c9, .int .i64 ((n : Int) + 2)])
        have RX := Lib.hid (R9.out.cl z9 hb4 (.cells #[.slice A9 (n + 2) c9, .int .i64 ((n : Int) + 2)] 25))
        have Rn := Lib.hid (R.out.cl z3 hb4 (.cells #[.slice A9 (n + 2) c9, .int .i64 ((n : Int) + 2)] 25))
        have bX := bel_cl (Below.refl _ wA) hb4 (.cells #[.slice A9 (n + 2) c9, .int .i64 ((n : Int) + 2)] 25)
        have zX : w1.heap.size ≤ (w4.alloc (.cells #[.slice A9 (n + 2) c9, .int .i64 ((n : Int) + 2)] 25)).heap.size := Nat.le_trans z9 (Nat.le_trans hb4.size (by simp))
        have zR : B ≤ (w4.alloc (.cells #[.slice A9 (n + 2) c9, .int .i64 ((n : Int) + 2)] 25)).heap.size := Nat.le_trans z3 (Nat.le_trans hb4.size (by simp))
        clear R hb4
        have R := Rn
        clear Rn
        go_wp2_with fail
        generalize hWX : (w4.alloc (.cells #[.slice A9 (n + 2) c9, .int .i64 ((n : Int) + 2)] 25)) = WX at *
        clear hWX
        refine wp_region_phases (S := fun _ W => Below WX.heap.size WX W) (E := fun W W' => Below W.heap.size W W') [] [(0, Is (.slice A n c)), (1, Is (.int .i64 q)), (2, Is (.int .i64 k2)), (3, Is (.int .i64 k3)), (4, Is (undef)), (5, Is (undef)), (6, Is (undef)), (7, Is (undef)), (9, Is (.slice A9 (n + 2) c9)), (10, Is (.int .i64 0)), (11, Is (.slice A11 m11 c11)), (12, Is (.int .i64 e11)), (13, Is (.slice A13 (n + 8) c13)), (14, Is (.int .i64 q)), (15, Is (.pointer (some ⟨w4.heap.size, 0, none⟩))), (16, Is (.int .i64 0)), (17, Is (undef)), (18, Is (undef)), (19, Is (undef)), (20, Is (undef)), (21, Is (undef)), (22, Is (undef))] [(74, Is (.int .i64 0)), (75, Is (.bool false)), (76, Is (.bool false)), (77, Is (.int .i64 q)), (78, Is (.int .i64 q)), (79, Is (.bool false)), (80, Is (.bool false)), (81, Is (.bool false)), (82, Is (.agg #[.slice A9 (n + 2) c9, .int .i64 ((n : Int) + 2)])), (83, Is (.int .i64 0)), (84, Is (.bool false)), (85, Is (.bool false)), (86, Is (.bool false)), (87, Is (.slice A9 (n + 2) c9)), (88, Is (.string (strOf (l ++ lowB q 2)))), (89, Is (.slice A n c)), (90, Is (.int .i64 q)), (91, Is (.int .u64 q)), (92, RowIs (n + 2) (l ++ lowB q 2)), (93, Is (.string (strOf (l ++ lowB q 2)))), (94, Is (.bool false)), (95, Is (.bool false))]
          [.op [16] none, .op [74] none, .op [75] none, .op [14, 76] (some (76, false)), .op [1, 76] (some (76, false)), .op [77, 78, 76] (some (76, false)), .op [76, 79] none, .op [80] none, .op [15, 81] (some (81, false)), .op [82, 81] (some (81, false)), .op [83, 81] (some (81, false)), .op [81, 84] none, .op [85] none, .op [9, 86] (some (86, false)), .op [87, 86] (some (86, false)), .op [0, 86] (some (86, false)), .op [1, 86] (some (86, false)), .op [90, 86] (some (86, false)), .op [89, 91, 86] (some (86, false)), .op [92, 86] (some (86, false)), .op [88, 93, 86] (some (86, false)), .op [86, 94] none] (by as_aux_lemma => kernel_rfl) ?_ ?_ ?_ ?_ ?_ ⟨stable_is _ _, stable_is _ _, stable_is _ _, stable_is _ _, stable_is _ _, stable_is _ _, stable_is _ _, stable_is _ _, stable_is _ _, stable_is _ _, stable_is _ _, stable_is _ _, stable_is _ _, stable_is _ _, stable_is _ _, stable_is _ _, stable_is _ _, stable_is _ _, stable_is _ _, stable_is _ _, stable_is _ _, stable_is _ _, stable_is _ _, stable_is _ _, stable_is _ _, stable_is _ _, stable_is _ _, stable_is _ _, stable_is _ _, stable_is _ _, stable_is _ _, stable_is _ _, stable_is _ _, stable_is _ _, stable_is _ _, stable_is _ _, stable_is _ _, stable_is _ _, stable_is _ _, stable_is _ _, rowIs_stable, stable_is _ _, stable_is _ _, stable_is _ _, trivial⟩ ?_ (Below.refl _ _).drew ?_ ?_
        · as_aux_lemma => kernel_rfl
        · as_aux_lemma => kernel_rfl
        · as_aux_lemma => kernel_rfl
        · as_aux_lemma => kernel_rfl
        · as_aux_lemma => kernel_rfl
        · exact ⟨rfl, rfl, rfl, rfl, rfl, rfl, rfl, rfl, rfl, rfl, rfl, rfl, rfl, rfl, rfl, rfl, rfl, rfl, rfl, rfl, rfl, rfl, trivial⟩
        · refine ⟨?_, ?_, ?_, ?_, ?_, ?_, ?_, ?_, ?_, ?_, ?_, ?_, ?_, ?_, ?_, ?_, ?_, ?_, ?_, ?_, ?_, ?_, trivial⟩
          · as_aux_lemma =>
              intro vals a W hS hL
              have e16 : a.tmps.getD 16 undef = .int .i64 0 := hL.1
              clear hL
              go_simp
              exact ⟨⟨fun d hd => by injection hd with hd; subst hd; rfl, fun h => by cases h⟩, hS, Below.refl _ _⟩
          · as_aux_lemma =>
              intro vals a W hS hL
              have e74 : a.tmps.getD 74 undef = .int .i64 0 := hL.1
              clear hL
              have hne : ((0 : Int) != (0 : Int)) = false := by simp
              have hne2 : ((0 : Int) == (0 : Int)) = true := by simp
              go_simp
              exact ⟨⟨fun d hd => by injection hd with hd; subst hd; rfl, fun h => by cases h⟩, hS, Below.refl _ _⟩
          · as_aux_lemma =>
              intro vals a W hS hL
              have e75 : a.tmps.getD 75 undef = .bool false := hL.1
              clear hL
              go_simp
              exact ⟨⟨fun d hd => by injection hd with hd; subst hd; rfl, fun h => by cases h⟩, hS, Below.refl _ _⟩
          · as_aux_lemma =>
              intro vals a W hS hL
              have e14 : a.tmps.getD 14 undef = .int .i64 q := hL.1
              have e76 : a.tmps.getD 76 undef = .bool false := hL.2.1
              clear hL
              refine ⟨false, e76, ?_⟩
              rw [if_pos rfl]
              go_simp
              exact ⟨⟨fun d hd => by injection hd with hd; subst hd; rfl, fun h => by cases h⟩, hS, Below.refl _ _⟩
          · as_aux_lemma =>
              intro vals a W hS hL
              have e1 : a.tmps.getD 1 undef = .int .i64 q := hL.1
              have e76 : a.tmps.getD 76 undef = .bool false := hL.2.1
              clear hL
              refine ⟨false, e76, ?_⟩
              rw [if_pos rfl]
              go_simp
              exact ⟨⟨fun d hd => by injection hd with hd; subst hd; rfl, fun h => by cases h⟩, hS, Below.refl _ _⟩
          · as_aux_lemma =>
              intro vals a W hS hL
              have e77 : a.tmps.getD 77 undef = .int .i64 q := hL.1
              have e78 : a.tmps.getD 78 undef = .int .i64 q := hL.2.1
              have e76 : a.tmps.getD 76 undef = .bool false := hL.2.2.1
              clear hL
              refine ⟨false, e76, ?_⟩
              rw [if_pos rfl]
              have hne : (((q : Int) : Int) != ((q : Int) : Int)) = false := by simp
              have hne2 : (((q : Int) : Int) == ((q : Int) : Int)) = true := by simp
              go_simp
              exact ⟨⟨fun d hd => by injection hd with hd; subst hd; rfl, fun h => by cases h⟩, hS, Below.refl _ _⟩
          · as_aux_lemma =>
              intro vals a W hS hL
              have e76 : a.tmps.getD 76 undef = .bool false := hL.1
              have e79 : a.tmps.getD 79 undef = .bool false := hL.2.1
              clear hL
              go_simp
              exact ⟨⟨fun d hd => by injection hd with hd; subst hd; rfl, fun h => by cases h⟩, hS, Below.refl _ _⟩
          · as_aux_lemma =>
              intro vals a W hS hL
              have e80 : a.tmps.getD 80 undef = .bool false := hL.1
              clear hL
              go_simp
              exact ⟨⟨fun d hd => by injection hd with hd; subst hd; rfl, fun h => by cases h⟩, hS, Below.refl _ _⟩
          · as_aux_lemma =>
              intro vals a W hS hL
              have e15 : a.tmps.getD 15 undef = .pointer (some ⟨w4.heap.size, 0, none⟩) := hL.1
              have e81 : a.tmps.getD 81 undef = .bool false := hL.2.1
              clear hL
              refine ⟨false, e81, ?_⟩
              rw [if_pos rfl]
              have q := KX.out.below hS KX.out.lt
              have f0 := q.cell 0
              have f1 := q.cell 1
              go_simp
              exact ⟨⟨fun d hd => by injection hd with hd; subst hd; rfl, fun h => by cases h⟩, hS, Below.refl _ _⟩
          · as_aux_lemma =>
              intro vals a W hS hL
              have e82 : a.tmps.getD 82 undef = .agg #[.slice A9 (n + 2) c9, .int .i64 ((n : Int) + 2)] := hL.1
              have e81 : a.tmps.getD 81 undef = .bool false := hL.2.1
              clear hL
              refine ⟨false, e81, ?_⟩
              rw [if_pos rfl]
              go_simp
              refine (end_ok (m := n + 2) (by omega) (by omega)).mono ?_
              rintro e W' ⟨rfl, hb⟩
              exact ⟨_, rfl, ⟨fun d hd => by injection hd with hd; subst hd; rfl, fun h => by cases h⟩, hS.trans (hb.mono hS.size), hb⟩
          · as_aux_lemma =>
              intro vals a W hS hL
              have e83 : a.tmps.getD 83 undef = .int .i64 0 := hL.1
              have e81 : a.tmps.getD 81 undef = .bool false := hL.2.1
              clear hL
              refine ⟨false, e81, ?_⟩
              rw [if_pos rfl]
              have hne : ((0 : Int) != (0 : Int)) = false := by simp
              have hne2 : ((0 : Int) == (0 : Int)) = true := by simp
              go_simp
              exact ⟨⟨fun d hd => by injection hd with hd; subst hd; rfl, fun h => by cases h⟩, hS, Below.refl _ _⟩
          · as_aux_lemma =>
              intro vals a W hS hL
              have e81 : a.tmps.getD 81 undef = .bool false := hL.1
              have e84 : a.tmps.getD 84 undef = .bool false := hL.2.1
              clear hL
              go_simp
              exact ⟨⟨fun d hd => by injection hd with hd; subst hd; rfl, fun h => by cases h⟩, hS, Below.refl _ _⟩
          · as_aux_lemma =>
              intro vals a W hS hL
              have e85 : a.tmps.getD 85 undef = .bool false := hL.1
              clear hL
              go_simp
              exact ⟨⟨fun d hd => by injection hd with hd; subst hd; rfl, fun h => by cases h⟩, hS, Below.refl _ _⟩
          · as_aux_lemma =>
              intro vals a W hS hL
              have e9 : a.tmps.getD 9 undef = .slice A9 (n + 2) c9 := hL.1
              have e86 : a.tmps.getD 86 undef = .bool false := hL.2.1
              clear hL
              refine ⟨false, e86, ?_⟩
              rw [if_pos rfl]
              go_simp
              exact ⟨⟨fun d hd => by injection hd with hd; subst hd; rfl, fun h => by cases h⟩, hS, Below.refl _ _⟩
          · as_aux_lemma =>
              intro vals a W hS hL
              have e87 : a.tmps.getD 87 undef = .slice A9 (n + 2) c9 := hL.1
              have e86 : a.tmps.getD 86 undef = .bool false := hL.2.1
              clear hL
              refine ⟨false, e86, ?_⟩
              rw [if_pos rfl]
              have s := run_str (c := c9) (RX.out.belowMono hS zX)
              go_simp
              exact ⟨⟨fun d hd => by injection hd with hd; subst hd; rfl, fun h => by cases h⟩, hS, Below.refl _ _⟩
          · as_aux_lemma =>
              intro vals a W hS hL
              have e0 : a.tmps.getD 0 undef = .slice A n c := hL.1
              have e86 : a.tmps.getD 86 undef = .bool false := hL.2.1
              clear hL
              refine ⟨false, e86, ?_⟩
              rw [if_pos rfl]
              go_simp
              exact ⟨⟨fun d hd => by injection hd with hd; subst hd; rfl, fun h => by cases h⟩, hS, Below.refl _ _⟩
          · as_aux_lemma =>
              intro vals a W hS hL
              have e1 : a.tmps.getD 1 undef = .int .i64 q := hL.1
              have e86 : a.tmps.getD 86 undef = .bool false := hL.2.1
              clear hL
              refine ⟨false, e86, ?_⟩
              rw [if_pos rfl]
              go_simp
              exact ⟨⟨fun d hd => by injection hd with hd; subst hd; rfl, fun h => by cases h⟩, hS, Below.refl _ _⟩
          · as_aux_lemma =>
              intro vals a W hS hL
              have e90 : a.tmps.getD 90 undef = .int .i64 q := hL.1
              have e86 : a.tmps.getD 86 undef = .bool false := hL.2.1
              clear hL
              refine ⟨false, e86, ?_⟩
              rw [if_pos rfl]
              have hqq := HQQ.out
              go_simp
              exact ⟨⟨fun d hd => by injection hd with hd; subst hd; rfl, fun h => by cases h⟩, hS, Below.refl _ _⟩
          · as_aux_lemma =>
              intro vals a W hS hL
              have e89 : a.tmps.getD 89 undef = .slice A n c := hL.1
              have e91 : a.tmps.getD 91 undef = .int .u64 q := hL.2.1
              have e86 : a.tmps.getD 86 undef = .bool false := hL.2.2.1
              clear hL
              refine ⟨false, e86, ?_⟩
              rw [if_pos rfl]
              go_simp
              refine (putLow_ok (s := 2) (R.out.belowMono hS zR) (Nat.le_trans zR hS.size) (by omega) (by omega)).mono ?_
              rintro e W' ⟨A1, c1, rfl, hc1, hr1, hb⟩
              exact ⟨_, rfl, ⟨fun d hd => by injection hd with hd; subst hd; exact ⟨A1, c1, _, rfl, Nat.le_refl _, hr1⟩, fun h => by cases h⟩, hS.trans (hb.mono hS.size), hb⟩
          · as_aux_lemma =>
              intro vals a W hS hL
              have e92 := hL.1
              have e86 : a.tmps.getD 86 undef = .bool false := hL.2.1
              clear hL
              refine ⟨false, e86, ?_⟩
              rw [if_pos rfl]
              obtain ⟨A1, c1, b1, e18, hb1, hr1⟩ := e92
              have s := run_str (c := c1) hr1
              rw [Array.getD_eq_getD_getElem?] at e18
              go_simp
              exact ⟨⟨fun d hd => by injection hd with hd; subst hd; rfl, fun h => by cases h⟩, hS, Below.refl _ _⟩
          · as_aux_lemma =>
              intro vals a W hS hL
              have e88 : a.tmps.getD 88 undef = .string (strOf (l ++ lowB q 2)) := hL.1
              have e93 : a.tmps.getD 93 undef = .string (strOf (l ++ lowB q 2)) := hL.2.1
              have e86 : a.tmps.getD 86 undef = .bool false := hL.2.2.1
              clear hL
              refine ⟨false, e86, ?_⟩
              rw [if_pos rfl]
              go_simp
              exact ⟨⟨fun d hd => by injection hd with hd; subst hd; rfl, fun h => by cases h⟩, hS, Below.refl _ _⟩
          · as_aux_lemma =>
              intro vals a W hS hL
              have e86 : a.tmps.getD 86 undef = .bool false := hL.1
              have e94 : a.tmps.getD 94 undef = .bool false := hL.2.1
              clear hL
              go_simp
              exact ⟨⟨fun d hd => by injection hd with hd; subst hd; rfl, fun h => by cases h⟩, hS, Below.refl _ _⟩
        · intro x W vals hd hsz hT _ _ _ hS
          have f0 : x.tmps.getD 0 undef = .slice A n c := hT 0 (by simp)
          have f1 : x.tmps.getD 1 undef = .int .i64 q := hT 1 (by simp)
          have f2 : x.tmps.getD 2 undef = .int .i64 k2 := hT 2 (by simp)
          have f3 : x.tmps.getD 3 undef = .int .i64 k3 := hT 3 (by simp)
          have f4 : x.tmps.getD 4 undef = undef := hT 4 (by simp)
          have f5 : x.tmps.getD 5 undef = undef := hT 5 (by simp)
          have f6 : x.tmps.getD 6 undef = undef := hT 6 (by simp)
          have f7 : x.tmps.getD 7 undef = undef := hT 7 (by simp)
          have f9 : x.tmps.getD 9 undef = .slice A9 (n + 2) c9 := hT 9 (by simp)
          have f10 : x.tmps.getD 10 undef = .int .i64 0 := hT 10 (by simp)
          have f11 : x.tmps.getD 11 undef = .slice A11 m11 c11 := hT 11 (by simp)
          have f12 : x.tmps.getD 12 undef = .int .i64 e11 := hT 12 (by simp)
          have f13 : x.tmps.getD 13 undef = .slice A13 (n + 8) c13 := hT 13 (by simp)
          have f14 : x.tmps.getD 14 undef = .int .i64 q := hT 14 (by simp)
          have f15 : x.tmps.getD 15 undef = .pointer (some ⟨w4.heap.size, 0, none⟩) := hT 15 (by simp)
          have f16 : x.tmps.getD 16 undef = .int .i64 0 := hT 16 (by simp)
          have f17 : x.tmps.getD 17 undef = undef := hT 17 (by simp)
          have f18 : x.tmps.getD 18 undef = undef := hT 18 (by simp)
          have f19 : x.tmps.getD 19 undef = undef := hT 19 (by simp)
          have f20 : x.tmps.getD 20 undef = undef := hT 20 (by simp)
          have f21 : x.tmps.getD 21 undef = undef := hT 21 (by simp)
          have f22 : x.tmps.getD 22 undef = undef := hT 22 (by simp)
          have ff : x.tmps.getD 95 undef = .bool false := hT 95 (by simp)
          have bW := bX.trans (hS.mono bX.size)
          clear hT hS
          rw [act_lit 178 x hd hsz]
          simp only [List.range, List.range.loop, List.map, f0, f1, f2, f3, f4, f5, f6, f7, f9, f10, f11, f12, f13, f14, f15, f16, f17, f18, f19, f20, f21, f22, ff]
          clear f0 f1 f2 f3 f4 f5 f6 f7 f9 f10 f11 f12 f13 f14 f15 f16 f17 f18 f19 f20 f21 f22 ff
          go_wp2
          go_meet
          exact bW
      · subst f3
        clear HF9 f0
        have s9 := run_str (c := c9) R9.out
        have s0 := run_str (c := c) R.out
        go_wp2
        go_meet
        exact Below.refl _ _
    case rest =>
      obtain ⟨wB, rfl⟩ : ∃ wB, wB = wc := ⟨_, rfl⟩
      have z13 : wA.heap.size ≤ wA.heap.size := Nat.le_refl _
      have Rn := Lib.hid (R.out.belowMono hcut z3)
      have z3n : B ≤ wB.heap.size := Nat.le_trans z3 hcut.size
      have R11n := Lib.hid (R11.out.belowMono hcut s23)
      have s23n : w2.heap.size ≤ wB.heap.size := Nat.le_trans s23 hcut.size
      have R13n := Lib.hid (R13.out.belowMono hcut z13)
      have z13n : wA.heap.size ≤ wB.heap.size := Nat.le_trans z13 hcut.size
      have b3n := b3.trans (hcut.mono b3.size)
      clear R z3 R11 s23 R13 z13 b3 b3z hcut
      have R := Rn
      have z3 := z3n
      have R11 := R11n
      have s23 := s23n
      have R13 := R13n
      have z13 := z13n
      have b3 := b3n
      have b3z := b3.size
      clear Rn z3n R11n s23n R13n z13n b3n
      clear HF9 R9 z9 hc9
      go_upto_if 106 with (fail)
      go_cut [17, 18, 19] from 23 (fun _ _ _ wx => Below wB.heap.size wB wx)
      case first =>
        rcases HF11.out with ⟨f0, f1, rfl, rfl, f4⟩ | ⟨f0, rfl, rfl, f3⟩
        · obtain ⟨q, rfl⟩ := Int.eq_ofNat_of_zero_le f0
          rw [Int.toNat_natCast] at f4
          subst f4
          have hq : q < 4294967296 := by have f1' : (q : Int) < 4294967296 := f1; omega
          have HQQ := Lib.hid (show IntKind.u64.wrap (q : Int) = (q : Int) from IntWalk.u64_in _ (by omega))
          clear HF11 f0 f1
          go_wp2_with fail
          refine (back32 R11.out hc11 (by omega) s23 HL.out hq).mono ?_
          rintro e w4 ⟨rfl, hb4⟩
          have KX := Lib.hid (Bk.new w4 25 #[.slice A11 (n + 4) c11, .int .i64 ((n : Int) + 4)])
          have RX := Lib.hid (R11.out.cl s23 hb4 (.cells #[.slice A11 (n + 4) c11, .int .i64 ((n : Int) + 4)] 25))
          have Rn := Lib.hid (R.out.cl z3 hb4 (.cells #[.slice A11 (n + 4) c11, .int .i64 ((n : Int) + 4)] 25))
          have bX := bel_cl (Below.refl _ wB) hb4 (.cells #[.slice A11 (n + 4) c11, .int .i64 ((n : Int) + 4)] 25)
          have zX : w2.heap.size ≤ (w4.alloc (.cells #[.slice A11 (n + 4) c11, .int .i64 ((n : Int) + 4)] 25)).heap.size := Nat.le_trans s23 (Nat.le_trans hb4.size (by simp))
          have zR : B ≤ (w4.alloc (.cells #[.slice A11 (n + 4) c11, .int .i64 ((n : Int) + 4)] 25)).heap.size := Nat.le_trans z3 (Nat.le_trans hb4.size (by simp))
          clear R hb4
          have R := Rn
          clear Rn
          go_wp2_with fail
          generalize hWX : (w4.alloc (.cells #[.slice A11 (n + 4) c11, .int .i64 ((n : Int) + 4)] 25)) = WX at *
          clear hWX
          refine wp_region_phases (S := fun _ W => Below WX.heap.size WX W) (E := fun W W' => Below W.heap.size W W') [] [(0, Is (.slice A n c)), (1, Is (.int .i64 a)), (2, Is (.int .i64 q)), (3, Is (.int .i64 k3)), (4, Is (undef)), (5, Is (undef)), (6, Is (undef)), (7, Is (undef)), (9, Is (.slice A9 m9 c9)), (10, Is (.int .i64 e9)), (11, Is (.slice A11 (n + 4) c11)), (12, Is (.int .i64 0)), (13, Is (.slice A13 (n + 8) c13)), (14, Is (u14)), (15, Is (u15)), (16, Is (u16)), (17, Is (.int .i64 q)), (18, Is (.pointer (some ⟨w4.heap.size, 0, none⟩))), (19, Is (.int .i64 0)), (20, Is (undef)), (21, Is (undef)), (22, Is (undef))] [(116, Is (.int .i64 0)), (117, Is (.bool false)), (118, Is (.bool false)), (119, Is (.int .i64 q)), (120, Is (.int .i64 q)), (121, Is (.bool false)), (122, Is (.bool false)), (123, Is (.bool false)), (124, Is (.agg #[.slice A11 (n + 4) c11, .int .i64 ((n : Int) + 4)])), (125, Is (.int .i64 0)), (126, Is (.bool false)), (127, Is (.bool false)), (128, Is (.bool false)), (129, Is (.slice A11 (n + 4) c11)), (130, Is (.string (strOf (l ++ lowB q 4)))), (131, Is (.slice A n c)), (132, Is (.int .i64 q)), (133, Is (.int .u64 q)), (134, RowIs (n + 4) (l ++ lowB q 4)), (135, Is (.string (strOf (l ++ lowB q 4)))), (136, Is (.bool false)), (137, Is (.bool false))]
            [.op [19] none, .op [116] none, .op [117] none, .op [17, 118] (some (118, false)), .op [2, 118] (some (118, false)), .op [119, 120, 118] (some (118, false)), .op [118, 121] none, .op [122] none, .op [18, 123] (some (123, false)), .op [124, 123] (some (123, false)), .op [125, 123] (some (123, false)), .op [123, 126] none, .op [127] none, .op [11, 128] (some (128, false)), .op [129, 128] (some (128, false)), .op [0, 128] (some (128, false)), .op [2, 128] (some (128, false)), .op [132, 128] (some (128, false)), .op [131, 133, 128] (some (128, false)), .op [134, 128] (some (128, false)), .op [130, 135, 128] (some (128, false)), .op [128, 136] none] (by as_aux_lemma => kernel_rfl) ?_ ?_ ?_ ?_ ?_ ⟨stable_is _ _, stable_is _ _, stable_is _ _, stable_is _ _, stable_is _ _, stable_is _ _, stable_is _ _, stable_is _ _, stable_is _ _, stable_is _ _, stable_is _ _, stable_is _ _, stable_is _ _, stable_is _ _, stable_is _ _, stable_is _ _, stable_is _ _, stable_is _ _, stable_is _ _, stable_is _ _, stable_is _ _, stable_is _ _, stable_is _ _, stable_is _ _, stable_is _ _, stable_is _ _, stable_is _ _, stable_is _ _, stable_is _ _, stable_is _ _, stable_is _ _, stable_is _ _, stable_is _ _, stable_is _ _, stable_is _ _, stable_is _ _, stable_is _ _, stable_is _ _, stable_is _ _, stable_is _ _, rowIs_stable, stable_is _ _, stable_is _ _, stable_is _ _, trivial⟩ ?_ (Below.refl _ _).drew ?_ ?_
          · as_aux_lemma => kernel_rfl
          · as_aux_lemma => kernel_rfl
          · as_aux_lemma => kernel_rfl
          · as_aux_lemma => kernel_rfl
          · as_aux_lemma => kernel_rfl
          · exact ⟨rfl, rfl, rfl, rfl, rfl, rfl, rfl, rfl, rfl, rfl, rfl, rfl, rfl, rfl, rfl, rfl, rfl, rfl, rfl, rfl, rfl, rfl, trivial⟩
          · refine ⟨?_, ?_, ?_, ?_, ?_, ?_, ?_, ?_, ?_, ?_, ?_, ?_, ?_, ?_, ?_, ?_, ?_, ?_, ?_, ?_, ?_, ?_, trivial⟩
            · as_aux_lemma =>
                intro vals a W hS hL
                have e19 : a.tmps.getD 19 undef = .int .i64 0 := hL.1
                clear hL
                go_simp
                exact ⟨⟨fun d hd => by injection hd with hd; subst hd; rfl, fun h => by cases h⟩, hS, Below.refl _ _⟩
            · as_aux_lemma =>
                intro vals a W hS hL
                have e116 : a.tmps.getD 116 undef = .int .i64 0 := hL.1
                clear hL
                have hne : ((0 : Int) != (0 : Int)) = false := by simp
                have hne2 : ((0 : Int) == (0 : Int)) = true := by simp
                go_simp
                exact ⟨⟨fun d hd => by injection hd with hd; subst hd; rfl, fun h => by cases h⟩, hS, Below.refl _ _⟩
            · as_aux_lemma =>
                intro vals a W hS hL
                have e117 : a.tmps.getD 117 undef = .bool false := hL.1
                clear hL
                go_simp
                exact ⟨⟨fun d hd => by injection hd with hd; subst hd; rfl, fun h => by cases h⟩, hS, Below.refl _ _⟩
            · as_aux_lemma =>
                intro vals a W hS hL
                have e17 : a.tmps.getD 17 undef = .int .i64 q := hL.1
                have e118 : a.tmps.getD 118 undef = .bool false := hL.2.1
                clear hL
                refine ⟨false, e118, ?_⟩
                rw [if_pos rfl]
                go_simp
                exact ⟨⟨fun d hd => by injection hd with hd; subst hd; rfl, fun h => by cases h⟩, hS, Below.refl _ _⟩
            · as_aux_lemma =>
                intro vals a W hS hL
                have e2 : a.tmps.getD 2 undef = .int .i64 q := hL.1
                have e118 : a.tmps.getD 118 undef = .bool false := hL.2.1
                clear hL
                refine ⟨false, e118, ?_⟩
                rw [if_pos rfl]
                go_simp
                exact ⟨⟨fun d hd => by injection hd with hd; subst hd; rfl, fun h => by cases h⟩, hS, Below.refl _ _⟩
            · as_aux_lemma =>
                intro vals a W hS hL
                have e119 : a.tmps.getD 119 undef = .int .i64 q := hL.1
                have e120 : a.tmps.getD 120 undef = .int .i64 q := hL.2.1
                have e118 : a.tmps.getD 118 undef = .bool false := hL.2.2.1
                clear hL
                refine ⟨false, e118, ?_⟩
                rw [if_pos rfl]
                have hne : (((q : Int) : Int) != ((q : Int) : Int)) = false := by simp
                have hne2 : (((q : Int) : Int) == ((q : Int) : Int)) = true := by simp
                go_simp
                exact ⟨⟨fun d hd => by injection hd with hd; subst hd; rfl, fun h => by cases h⟩, hS, Below.refl _ _⟩
            · as_aux_lemma =>
                intro vals a W hS hL
                have e118 : a.tmps.getD 118 undef = .bool false := hL.1
                have e121 : a.tmps.getD 121 undef = .bool false := hL.2.1
                clear hL
                go_simp
                exact ⟨⟨fun d hd => by injection hd with hd; subst hd; rfl, fun h => by cases h⟩, hS, Below.refl _ _⟩
            · as_aux_lemma =>
                intro vals a W hS hL
                have e122 : a.tmps.getD 122 undef = .bool false := hL.1
                clear hL
                go_simp
                exact ⟨⟨fun d hd => by injection hd with hd; subst hd; rfl, fun h => by cases h⟩, hS, Below.refl _ _⟩
            · as_aux_lemma =>
                intro vals a W hS hL
                have e18 : a.tmps.getD 18 undef = .pointer (some ⟨w4.heap.size, 0, none⟩) := hL.1
                have e123 : a.tmps.getD 123 undef = .bool false := hL.2.1
                clear hL
                refine ⟨false, e123, ?_⟩
                rw [if_pos rfl]
                have q := KX.out.below hS KX.out.lt
                have f0 := q.cell 0
                have f1 := q.cell 1
                go_simp
                exact ⟨⟨fun d hd => by injection hd with hd; subst hd; rfl, fun h => by cases h⟩, hS, Below.refl _ _⟩
            · as_aux_lemma =>
                intro vals a W hS hL
                have e124 : a.tmps.getD 124 undef = .agg #[.slice A11 (n + 4) c11, .int .i64 ((n : Int) + 4)] := hL.1
                have e123 : a.tmps.getD 123 undef = .bool false := hL.2.1
                clear hL
                refine ⟨false, e123, ?_⟩
                rw [if_pos rfl]
                go_simp
                refine (end_ok (m := n + 4) (by omega) (by omega)).mono ?_
                rintro e W' ⟨rfl, hb⟩
                exact ⟨_, rfl, ⟨fun d hd => by injection hd with hd; subst hd; rfl, fun h => by cases h⟩, hS.trans (hb.mono hS.size), hb⟩
            · as_aux_lemma =>
                intro vals a W hS hL
                have e125 : a.tmps.getD 125 undef = .int .i64 0 := hL.1
                have e123 : a.tmps.getD 123 undef = .bool false := hL.2.1
                clear hL
                refine ⟨false, e123, ?_⟩
                rw [if_pos rfl]
                have hne : ((0 : Int) != (0 : Int)) = false := by simp
                have hne2 : ((0 : Int) == (0 : Int)) = true := by simp
                go_simp
                exact ⟨⟨fun d hd => by injection hd with hd; subst hd; rfl, fun h => by cases h⟩, hS, Below.refl _ _⟩
            · as_aux_lemma =>
                intro vals a W hS hL
                have e123 : a.tmps.getD 123 undef = .bool false := hL.1
                have e126 : a.tmps.getD 126 undef = .bool false := hL.2.1
                clear hL
                go_simp
                exact ⟨⟨fun d hd => by injection hd with hd; subst hd; rfl, fun h => by cases h⟩, hS, Below.refl _ _⟩
            · as_aux_lemma =>
                intro vals a W hS hL
                have e127 : a.tmps.getD 127 undef = .bool false := hL.1
                clear hL
                go_simp
                exact ⟨⟨fun d hd => by injection hd with hd; subst hd; rfl, fun h => by cases h⟩, hS, Below.refl _ _⟩
            · as_aux_lemma =>
                intro vals a W hS hL
                have e11 : a.tmps.getD 11 undef = .slice A11 (n + 4) c11 := hL.1
                have e128 : a.tmps.getD 128 undef = .bool false := hL.2.1
                clear hL
                refine ⟨false, e128, ?_⟩
                rw [if_pos rfl]
                go_simp
                exact ⟨⟨fun d hd => by injection hd with hd; subst hd; rfl, fun h => by cases h⟩, hS, Below.refl _ _⟩
            · as_aux_lemma =>
                intro vals a W hS hL
                have e129 : a.tmps.getD 129 undef = .slice A11 (n + 4) c11 := hL.1
                have e128 : a.tmps.getD 128 undef = .bool false := hL.2.1
                clear hL
                refine ⟨false, e128, ?_⟩
                rw [if_pos rfl]
                have s := run_str (c := c11) (RX.out.belowMono hS zX)
                go_simp
                exact ⟨⟨fun d hd => by injection hd with hd; subst hd; rfl, fun h => by cases h⟩, hS, Below.refl _ _⟩
            · as_aux_lemma =>
                intro vals a W hS hL
                have e0 : a.tmps.getD 0 undef = .slice A n c := hL.1
                have e128 : a.tmps.getD 128 undef = .bool false := hL.2.1
                clear hL
                refine ⟨false, e128, ?_⟩
                rw [if_pos rfl]
                go_simp
                exact ⟨⟨fun d hd => by injection hd with hd; subst hd; rfl, fun h => by cases h⟩, hS, Below.refl _ _⟩
            · as_aux_lemma =>
                intro vals a W hS hL
                have e2 : a.tmps.getD 2 undef = .int .i64 q := hL.1
                have e128 : a.tmps.getD 128 undef = .bool false := hL.2.1
                clear hL
                refine ⟨false, e128, ?_⟩
                rw [if_pos rfl]
                go_simp
                exact ⟨⟨fun d hd => by injection hd with hd; subst hd; rfl, fun h => by cases h⟩, hS, Below.refl _ _⟩
            · as_aux_lemma =>
                intro vals a W hS hL
                have e132 : a.tmps.getD 132 undef = .int .i64 q := hL.1
                have e128 : a.tmps.getD 128 undef = .bool false := hL.2.1
                clear hL
                refine ⟨false, e128, ?_⟩
                rw [if_pos rfl]
                have hqq := HQQ.out
                go_simp
                exact ⟨⟨fun d hd => by injection hd with hd; subst hd; rfl, fun h => by cases h⟩, hS, Below.refl _ _⟩
            · as_aux_lemma =>
                intro vals a W hS hL
                have e131 : a.tmps.getD 131 undef = .slice A n c := hL.1
                have e133 : a.tmps.getD 133 undef = .int .u64 q := hL.2.1
                have e128 : a.tmps.getD 128 undef = .bool false := hL.2.2.1
                clear hL
                refine ⟨false, e128, ?_⟩
                rw [if_pos rfl]
                go_simp
                refine (putLow_ok (s := 4) (R.out.belowMono hS zR) (Nat.le_trans zR hS.size) (by omega) (by omega)).mono ?_
                rintro e W' ⟨A1, c1, rfl, hc1, hr1, hb⟩
                exact ⟨_, rfl, ⟨fun d hd => by injection hd with hd; subst hd; exact ⟨A1, c1, _, rfl, Nat.le_refl _, hr1⟩, fun h => by cases h⟩, hS.trans (hb.mono hS.size), hb⟩
            · as_aux_lemma =>
                intro vals a W hS hL
                have e134 := hL.1
                have e128 : a.tmps.getD 128 undef = .bool false := hL.2.1
                clear hL
                refine ⟨false, e128, ?_⟩
                rw [if_pos rfl]
                obtain ⟨A1, c1, b1, e18, hb1, hr1⟩ := e134
                have s := run_str (c := c1) hr1
                rw [Array.getD_eq_getD_getElem?] at e18
                go_simp
                exact ⟨⟨fun d hd => by injection hd with hd; subst hd; rfl, fun h => by cases h⟩, hS, Below.refl _ _⟩
            · as_aux_lemma =>
                intro vals a W hS hL
                have e130 : a.tmps.getD 130 undef = .string (strOf (l ++ lowB q 4)) := hL.1
                have e135 : a.tmps.getD 135 undef = .string (strOf (l ++ lowB q 4)) := hL.2.1
                have e128 : a.tmps.getD 128 undef = .bool false := hL.2.2.1
                clear hL
                refine ⟨false, e128, ?_⟩
                rw [if_pos rfl]
                go_simp
                exact ⟨⟨fun d hd => by injection hd with hd; subst hd; rfl, fun h => by cases h⟩, hS, Below.refl _ _⟩
            · as_aux_lemma =>
                intro vals a W hS hL
                have e128 : a.tmps.getD 128 undef = .bool false := hL.1
                have e136 : a.tmps.getD 136 undef = .bool false := hL.2.1
                clear hL
                go_simp
                exact ⟨⟨fun d hd => by injection hd with hd; subst hd; rfl, fun h => by cases h⟩, hS, Below.refl _ _⟩
          · intro x W vals hd hsz hT _ _ _ hS
            have f0 : x.tmps.getD 0 undef = .slice A n c := hT 0 (by simp)
            have f1 : x.tmps.getD 1 undef = .int .i64 a := hT 1 (by simp)
            have f2 : x.tmps.getD 2 undef = .int .i64 q := hT 2 (by simp)
            have f3 : x.tmps.getD 3 undef = .int .i64 k3 := hT 3 (by simp)
            have f4 : x.tmps.getD 4 undef = undef := hT 4 (by simp)
            have f5 : x.tmps.getD 5 undef = undef := hT 5 (by simp)
            have f6 : x.tmps.getD 6 undef = undef := hT 6 (by simp)
            have f7 : x.tmps.getD 7 undef = undef := hT 7 (by simp)
            have f9 : x.tmps.getD 9 undef = .slice A9 m9 c9 := hT 9 (by simp)
            have f10 : x.tmps.getD 10 undef = .int .i64 e9 := hT 10 (by simp)
            have f11 : x.tmps.getD 11 undef = .slice A11 (n + 4) c11 := hT 11 (by simp)
            have f12 : x.tmps.getD 12 undef = .int .i64 0 := hT 12 (by simp)
            have f13 : x.tmps.getD 13 undef = .slice A13 (n + 8) c13 := hT 13 (by simp)
            have f14 : x.tmps.getD 14 undef = u14 := hT 14 (by simp)
            have f15 : x.tmps.getD 15 undef = u15 := hT 15 (by simp)
            have f16 : x.tmps.getD 16 undef = u16 := hT 16 (by simp)
            have f17 : x.tmps.getD 17 undef = .int .i64 q := hT 17 (by simp)
            have f18 : x.tmps.getD 18 undef = .pointer (some ⟨w4.heap.size, 0, none⟩) := hT 18 (by simp)
            have f19 : x.tmps.getD 19 undef = .int .i64 0 := hT 19 (by simp)
            have f20 : x.tmps.getD 20 undef = undef := hT 20 (by simp)
            have f21 : x.tmps.getD 21 undef = undef := hT 21 (by simp)
            have f22 : x.tmps.getD 22 undef = undef := hT 22 (by simp)
            have ff : x.tmps.getD 137 undef = .bool false := hT 137 (by simp)
            have bW := bX.trans (hS.mono bX.size)
            clear hT hS
            rw [act_lit 178 x hd hsz]
            simp only [List.range, List.range.loop, List.map, f0, f1, f2, f3, f4, f5, f6, f7, f9, f10, f11, f12, f13, f14, f15, f16, f17, f18, f19, f20, f21, f22, ff]
            clear f0 f1 f2 f3 f4 f5 f6 f7 f9 f10 f11 f12 f13 f14 f15 f16 f17 f18 f19 f20 f21 f22 ff
            go_wp2
            go_meet
            exact bW
        · subst f3
          clear HF11 f0
          have s9 := run_str (c := c11) R11.out
          have s0 := run_str (c := c) R.out
          go_wp2
          go_meet
          exact Below.refl _ _
      case rest =>
        obtain ⟨wC, rfl⟩ : ∃ wC, wC = wc := ⟨_, rfl⟩
        have Rn := Lib.hid (R.out.belowMono hcut z3)
        have z3n : B ≤ wC.heap.size := Nat.le_trans z3 hcut.size
        have R11n := Lib.hid (R11.out.belowMono hcut s23)
        have s23n : w2.heap.size ≤ wC.heap.size := Nat.le_trans s23 hcut.size
        have R13n := Lib.hid (R13.out.belowMono hcut z13)
        have z13n : wA.heap.size ≤ wC.heap.size := Nat.le_trans z13 hcut.size
        have b3n := b3.trans (hcut.mono b3.size)
        clear R z3 R11 s23 R13 z13 b3 b3z hcut
        have R := Rn
        have z3 := z3n
        have R11 := R11n
        have s23 := s23n
        have R13 := R13n
        have z13 := z13n
        have b3 := b3n
        have b3z := b3.size
        clear Rn z3n R11n s23n R13n z13n b3n
        clear HF11
        have HQQ := Lib.hid (two64_wrap k3)
        have hqlt := two64_lt k3
        have z13' : wA.heap.size ≤ wC.heap.size := z13
        go_wp2_with fail
        refine (back64 R13.out hc13 (by omega) z13' HL.out h30 h31).mono ?_
        rintro e w4 ⟨rfl, hb4⟩
        have KX := Lib.hid (Bk.new w4 25 #[.slice A13 (n + 8) c13, .int .i64 ((n : Int) + 8)])
        have RX := Lib.hid (R13.out.cl z13' hb4 (.cells #[.slice A13 (n + 8) c13, .int .i64 ((n : Int) + 8)] 25))
        have Rn := Lib.hid (R.out.cl z3 hb4 (.cells #[.slice A13 (n + 8) c13, .int .i64 ((n : Int) + 8)] 25))
        have bX := bel_cl (Below.refl _ wC) hb4 (.cells #[.slice A13 (n + 8) c13, .int .i64 ((n : Int) + 8)] 25)
        have zX : wA.heap.size ≤ (w4.alloc (.cells #[.slice A13 (n + 8) c13, .int .i64 ((n : Int) + 8)] 25)).heap.size := Nat.le_trans z13' (Nat.le_trans hb4.size (by simp))
        have zR : B ≤ (w4.alloc (.cells #[.slice A13 (n + 8) c13, .int .i64 ((n : Int) + 8)] 25)).heap.size := Nat.le_trans z3 (Nat.le_trans hb4.size (by simp))
        clear R hb4
        have R := Rn
        clear Rn
        go_wp2_with fail
        generalize hWX : (w4.alloc (.cells #[.slice A13 (n + 8) c13, .int .i64 ((n : Int) + 8)] 25)) = WX at *
        clear hWX
        refine wp_region_phases (S := fun _ W => Below WX.heap.size WX W) (E := fun W W' => Below W.heap.size W W') [] [(0, Is (.slice A n c)), (1, Is (.int .i64 a)), (2, Is (.int .i64 k2)), (3, Is (.int .i64 k3)), (4, Is (undef)), (5, Is (undef)), (6, Is (undef)), (7, Is (undef)), (9, Is (.slice A9 m9 c9)), (10, Is (.int .i64 e9)), (11, Is (.slice A11 m11 c11)), (12, Is (.int .i64 e11)), (13, Is (.slice A13 (n + 8) c13)), (14, Is (u14)), (15, Is (u15)), (16, Is (u16)), (17, Is (u17)), (18, Is (u18)), (19, Is (u19)), (20, Is (.int .i64 k3)), (21, Is (.pointer (some ⟨w4.heap.size, 0, none⟩))), (22, Is (.int .i64 0))] [(156, Is (.int .i64 0)), (157, Is (.bool true)), (158, Is (.bool true)), (159, Is (.int .i64 k3)), (160, Is (.int .i64 k3)), (161, Is (.bool true)), (162, Is (.bool true)), (163, Is (.bool true)), (164, Is (.agg #[.slice A13 (n + 8) c13, .int .i64 ((n : Int) + 8)])), (165, Is (.int .i64 0)), (166, Is (.bool true)), (167, Is (.bool true)), (168, Is (.bool true)), (169, Is (.slice A13 (n + 8) c13)), (170, Is (.string (strOf (l ++ lowB (two64 k3) 8)))), (171, Is (.slice A n c)), (172, Is (.int .i64 k3)), (173, Is (.int .u64 (two64 k3))), (174, RowIs (n + 8) (l ++ lowB (two64 k3) 8)), (175, Is (.string (strOf (l ++ lowB (two64 k3) 8)))), (176, Is (.bool true)), (177, Is (.bool true)), (8, Is (.bool true))]
          [.op [22] none, .op [156] none, .op [157] none, .op [20, 158] (some (158, true)), .op [3, 158] (some (158, true)), .op [159, 160, 158] (some (158, true)), .op [158, 161] none, .op [162] none, .op [21, 163] (some (163, true)), .op [164, 163] (some (163, true)), .op [165, 163] (some (163, true)), .op [163, 166] none, .op [167] none, .op [13, 168] (some (168, true)), .op [169, 168] (some (168, true)), .op [0, 168] (some (168, true)), .op [3, 168] (some (168, true)), .op [172, 168] (some (168, true)), .op [171, 173, 168] (some (168, true)), .op [174, 168] (some (168, true)), .op [170, 175, 168] (some (168, true)), .op [168, 176] none, .op [177] none] (by as_aux_lemma => kernel_rfl) ?_ ?_ ?_ ?_ ?_ ⟨stable_is _ _, stable_is _ _, stable_is _ _, stable_is _ _, stable_is _ _, stable_is _ _, stable_is _ _, stable_is _ _, stable_is _ _, stable_is _ _, stable_is _ _, stable_is _ _, stable_is _ _, stable_is _ _, stable_is _ _, stable_is _ _, stable_is _ _, stable_is _ _, stable_is _ _, stable_is _ _, stable_is _ _, stable_is _ _, stable_is _ _, stable_is _ _, stable_is _ _, stable_is _ _, stable_is _ _, stable_is _ _, stable_is _ _, stable_is _ _, stable_is _ _, stable_is _ _, stable_is _ _, stable_is _ _, stable_is _ _, stable_is _ _, stable_is _ _, stable_is _ _, stable_is _ _, stable_is _ _, rowIs_stable, stable_is _ _, stable_is _ _, stable_is _ _, stable_is _ _, trivial⟩ ?_ (Below.refl _ _).drew ?_ ?_
        · as_aux_lemma => kernel_rfl
        · as_aux_lemma => kernel_rfl
        · as_aux_lemma => kernel_rfl
        · as_aux_lemma => kernel_rfl
        · as_aux_lemma => kernel_rfl
        · exact ⟨rfl, rfl, rfl, rfl, rfl, rfl, rfl, rfl, rfl, rfl, rfl, rfl, rfl, rfl, rfl, rfl, rfl, rfl, rfl, rfl, rfl, rfl, trivial⟩
        · refine ⟨?_, ?_, ?_, ?_, ?_, ?_, ?_, ?_, ?_, ?_, ?_, ?_, ?_, ?_, ?_, ?_, ?_, ?_, ?_, ?_, ?_, ?_, ?_, trivial⟩
          · as_aux_lemma =>
              intro vals a W hS hL
              have e22 : a.tmps.getD 22 undef = .int .i64 0 := hL.1
              clear hL
              go_simp
              exact ⟨⟨fun d hd => by injection hd with hd; subst hd; rfl, fun h => by cases h⟩, hS, Below.refl _ _⟩
          · as_aux_lemma =>
              intro vals a W hS hL
              have e156 : a.tmps.getD 156 undef = .int .i64 0 := hL.1
              clear hL
              have hne : ((0 : Int) != (0 : Int)) = false := by simp
              have hne2 : ((0 : Int) == (0 : Int)) = true := by simp
              go_simp
              exact ⟨⟨fun d hd => by injection hd with hd; subst hd; rfl, fun h => by cases h⟩, hS, Below.refl _ _⟩
          · as_aux_lemma =>
              intro vals a W hS hL
              have e157 : a.tmps.getD 157 undef = .bool true := hL.1
              clear hL
              go_simp
              exact ⟨⟨fun d hd => by injection hd with hd; subst hd; rfl, fun h => by cases h⟩, hS, Below.refl _ _⟩
          · as_aux_lemma =>
              intro vals a W hS hL
              have e20 : a.tmps.getD 20 undef = .int .i64 k3 := hL.1
              have e158 : a.tmps.getD 158 undef = .bool true := hL.2.1
              clear hL
              refine ⟨true, e158, ?_⟩
              rw [if_pos rfl]
              go_simp
              exact ⟨⟨fun d hd => by injection hd with hd; subst hd; rfl, fun h => by cases h⟩, hS, Below.refl _ _⟩
          · as_aux_lemma =>
              intro vals a W hS hL
              have e3 : a.tmps.getD 3 undef = .int .i64 k3 := hL.1
              have e158 : a.tmps.getD 158 undef = .bool true := hL.2.1
              clear hL
              refine ⟨true, e158, ?_⟩
              rw [if_pos rfl]
              go_simp
              exact ⟨⟨fun d hd => by injection hd with hd; subst hd; rfl, fun h => by cases h⟩, hS, Below.refl _ _⟩
          · as_aux_lemma =>
              intro vals a W hS hL
              have e159 : a.tmps.getD 159 undef = .int .i64 k3 := hL.1
              have e160 : a.tmps.getD 160 undef = .int .i64 k3 := hL.2.1
              have e158 : a.tmps.getD 158 undef = .bool true := hL.2.2.1
              clear hL
              refine ⟨true, e158, ?_⟩
              rw [if_pos rfl]
              have hne : ((k3 : Int) != (k3 : Int)) = false := by simp
              have hne2 : ((k3 : Int) == (k3 : Int)) = true := by simp
              go_simp
              exact ⟨⟨fun d hd => by injection hd with hd; subst hd; rfl, fun h => by cases h⟩, hS, Below.refl _ _⟩
          · as_aux_lemma =>
              intro vals a W hS hL
              have e158 : a.tmps.getD 158 undef = .bool true := hL.1
              have e161 : a.tmps.getD 161 undef = .bool true := hL.2.1
              clear hL
              go_simp
              exact ⟨⟨fun d hd => by injection hd with hd; subst hd; rfl, fun h => by cases h⟩, hS, Below.refl _ _⟩
          · as_aux_lemma =>
              intro vals a W hS hL
              have e162 : a.tmps.getD 162 undef = .bool true := hL.1
              clear hL
              go_simp
              exact ⟨⟨fun d hd => by injection hd with hd; subst hd; rfl, fun h => by cases h⟩, hS, Below.refl _ _⟩
          · as_aux_lemma =>
              intro vals a W hS hL
              have e21 : a.tmps.getD 21 undef = .pointer (some ⟨w4.heap.size, 0, none⟩) := hL.1
              have e163 : a.tmps.getD 163 undef = .bool true := hL.2.1
              clear hL
              refine ⟨true, e163, ?_⟩
              rw [if_pos rfl]
              have q := KX.out.below hS KX.out.lt
              have f0 := q.cell 0
              have f1 := q.cell 1
              go_simp
              exact ⟨⟨fun d hd => by injection hd with hd; subst hd; rfl, fun h => by cases h⟩, hS, Below.refl _ _⟩
          · as_aux_lemma =>
              intro vals a W hS hL
              have e164 : a.tmps.getD 164 undef = .agg #[.slice A13 (n + 8) c13, .int .i64 ((n : Int) + 8)] := hL.1
              have e163 : a.tmps.getD 163 undef = .bool true := hL.2.1
              clear hL
              refine ⟨true, e163, ?_⟩
              rw [if_pos rfl]
              go_simp
              refine (end_ok (m := n + 8) (by omega) (by omega)).mono ?_
              rintro e W' ⟨rfl, hb⟩
              exact ⟨_, rfl, ⟨fun d hd => by injection hd with hd; subst hd; rfl, fun h => by cases h⟩, hS.trans (hb.mono hS.size), hb⟩
          · as_aux_lemma =>
              intro vals a W hS hL
              have e165 : a.tmps.getD 165 undef = .int .i64 0 := hL.1
              have e163 : a.tmps.getD 163 undef = .bool true := hL.2.1
              clear hL
              refine ⟨true, e163, ?_⟩
              rw [if_pos rfl]
              have hne : ((0 : Int) != (0 : Int)) = false := by simp
              have hne2 : ((0 : Int) == (0 : Int)) = true := by simp
              go_simp
              exact ⟨⟨fun d hd => by injection hd with hd; subst hd; rfl, fun h => by cases h⟩, hS, Below.refl _ _⟩
          · as_aux_lemma =>
              intro vals a W hS hL
              have e163 : a.tmps.getD 163 undef = .bool true := hL.1
              have e166 : a.tmps.getD 166 undef = .bool true := hL.2.1
              clear hL
              go_simp
              exact ⟨⟨fun d hd => by injection hd with hd; subst hd; rfl, fun h => by cases h⟩, hS, Below.refl _ _⟩
          · as_aux_lemma =>
              intro vals a W hS hL
              have e167 : a.tmps.getD 167 undef = .bool true := hL.1
              clear hL
              go_simp
              exact ⟨⟨fun d hd => by injection hd with hd; subst hd; rfl, fun h => by cases h⟩, hS, Below.refl _ _⟩
          · as_aux_lemma =>
              intro vals a W hS hL
              have e13 : a.tmps.getD 13 undef = .slice A13 (n + 8) c13 := hL.1
              have e168 : a.tmps.getD 168 undef = .bool true := hL.2.1
              clear hL
              refine ⟨true, e168, ?_⟩
              rw [if_pos rfl]
              go_simp
              exact ⟨⟨fun d hd => by injection hd with hd; subst hd; rfl, fun h => by cases h⟩, hS, Below.refl _ _⟩
          · as_aux_lemma =>
              intro vals a W hS hL
              have e169 : a.tmps.getD 169 undef = .slice A13 (n + 8) c13 := hL.1
              have e168 : a.tmps.getD 168 undef = .bool true := hL.2.1
              clear hL
              refine ⟨true, e168, ?_⟩
              rw [if_pos rfl]
              have s := run_str (c := c13) (RX.out.belowMono hS zX)
              go_simp
              exact ⟨⟨fun d hd => by injection hd with hd; subst hd; rfl, fun h => by cases h⟩, hS, Below.refl _ _⟩
          · as_aux_lemma =>
              intro vals a W hS hL
              have e0 : a.tmps.getD 0 undef = .slice A n c := hL.1
              have e168 : a.tmps.getD 168 undef = .bool true := hL.2.1
              clear hL
              refine ⟨true, e168, ?_⟩
              rw [if_pos rfl]
              go_simp
              exact ⟨⟨fun d hd => by injection hd with hd; subst hd; rfl, fun h => by cases h⟩, hS, Below.refl _ _⟩
          · as_aux_lemma =>
              intro vals a W hS hL
              have e3 : a.tmps.getD 3 undef = .int .i64 k3 := hL.1
              have e168 : a.tmps.getD 168 undef = .bool true := hL.2.1
              clear hL
              refine ⟨true, e168, ?_⟩
              rw [if_pos rfl]
              go_simp
              exact ⟨⟨fun d hd => by injection hd with hd; subst hd; rfl, fun h => by cases h⟩, hS, Below.refl _ _⟩
          · as_aux_lemma =>
              intro vals a W hS hL
              have e172 : a.tmps.getD 172 undef = .int .i64 k3 := hL.1
              have e168 : a.tmps.getD 168 undef = .bool true := hL.2.1
              clear hL
              refine ⟨true, e168, ?_⟩
              rw [if_pos rfl]
              have hqq := HQQ.out
              go_simp
              exact ⟨⟨fun d hd => by injection hd with hd; subst hd; rfl, fun h => by cases h⟩, hS, Below.refl _ _⟩
          · as_aux_lemma =>
              intro vals a W hS hL
              have e171 : a.tmps.getD 171 undef = .slice A n c := hL.1
              have e173 : a.tmps.getD 173 undef = .int .u64 (two64 k3) := hL.2.1
              have e168 : a.tmps.getD 168 undef = .bool true := hL.2.2.1
              clear hL
              refine ⟨true, e168, ?_⟩
              rw [if_pos rfl]
              go_simp
              refine (putLow_ok (s := 8) (R.out.belowMono hS zR) (Nat.le_trans zR hS.size) (by omega) (by omega)).mono ?_
              rintro e W' ⟨A1, c1, rfl, hc1, hr1, hb⟩
              exact ⟨_, rfl, ⟨fun d hd => by injection hd with hd; subst hd; exact ⟨A1, c1, _, rfl, Nat.le_refl _, hr1⟩, fun h => by cases h⟩, hS.trans (hb.mono hS.size), hb⟩
          · as_aux_lemma =>
              intro vals a W hS hL
              have e174 := hL.1
              have e168 : a.tmps.getD 168 undef = .bool true := hL.2.1
              clear hL
              refine ⟨true, e168, ?_⟩
              rw [if_pos rfl]
              obtain ⟨A1, c1, b1, e18, hb1, hr1⟩ := e174
              have s := run_str (c := c1) hr1
              rw [Array.getD_eq_getD_getElem?] at e18
              go_simp
              exact ⟨⟨fun d hd => by injection hd with hd; subst hd; rfl, fun h => by cases h⟩, hS, Below.refl _ _⟩
          · as_aux_lemma =>
              intro vals a W hS hL
              have e170 : a.tmps.getD 170 undef = .string (strOf (l ++ lowB (two64 k3) 8)) := hL.1
              have e175 : a.tmps.getD 175 undef = .string (strOf (l ++ lowB (two64 k3) 8)) := hL.2.1
              have e168 : a.tmps.getD 168 undef = .bool true := hL.2.2.1
              clear hL
              refine ⟨true, e168, ?_⟩
              rw [if_pos rfl]
              go_simp
              exact ⟨⟨fun d hd => by injection hd with hd; subst hd; rfl, fun h => by cases h⟩, hS, Below.refl _ _⟩
          · as_aux_lemma =>
              intro vals a W hS hL
              have e168 : a.tmps.getD 168 undef = .bool true := hL.1
              have e176 : a.tmps.getD 176 undef = .bool true := hL.2.1
              clear hL
              go_simp
              exact ⟨⟨fun d hd => by injection hd with hd; subst hd; rfl, fun h => by cases h⟩, hS, Below.refl _ _⟩
          · as_aux_lemma =>
              intro vals a W hS hL
              have e177 : a.tmps.getD 177 undef = .bool true := hL.1
              clear hL
              go_simp
              exact ⟨⟨fun d hd => by injection hd with hd; subst hd; rfl, fun h => by cases h⟩, hS, Below.refl _ _⟩
        · intro x W vals hd hsz hT _ _ _ hS
          have f0 : x.tmps.getD 0 undef = .slice A n c := hT 0 (by simp)
          have f1 : x.tmps.getD 1 undef = .int .i64 a := hT 1 (by simp)
          have f2 : x.tmps.getD 2 undef = .int .i64 k2 := hT 2 (by simp)
          have f3 : x.tmps.getD 3 undef = .int .i64 k3 := hT 3 (by simp)
          have f4 : x.tmps.getD 4 undef = undef := hT 4 (by simp)
          have f5 : x.tmps.getD 5 undef = undef := hT 5 (by simp)
          have f6 : x.tmps.getD 6 undef = undef := hT 6 (by simp)
          have f7 : x.tmps.getD 7 undef = undef := hT 7 (by simp)
          have f9 : x.tmps.getD 9 undef = .slice A9 m9 c9 := hT 9 (by simp)
          have f10 : x.tmps.getD 10 undef = .int .i64 e9 := hT 10 (by simp)
          have f11 : x.tmps.getD 11 undef = .slice A11 m11 c11 := hT 11 (by simp)
          have f12 : x.tmps.getD 12 undef = .int .i64 e11 := hT 12 (by simp)
          have f13 : x.tmps.getD 13 undef = .slice A13 (n + 8) c13 := hT 13 (by simp)
          have f14 : x.tmps.getD 14 undef = u14 := hT 14 (by simp)
          have f15 : x.tmps.getD 15 undef = u15 := hT 15 (by simp)
          have f16 : x.tmps.getD 16 undef = u16 := hT 16 (by simp)
          have f17 : x.tmps.getD 17 undef = u17 := hT 17 (by simp)
          have f18 : x.tmps.getD 18 undef = u18 := hT 18 (by simp)
          have f19 : x.tmps.getD 19 undef = u19 := hT 19 (by simp)
          have f20 : x.tmps.getD 20 undef = .int .i64 k3 := hT 20 (by simp)
          have f21 : x.tmps.getD 21 undef = .pointer (some ⟨w4.heap.size, 0, none⟩) := hT 21 (by simp)
          have f22 : x.tmps.getD 22 undef = .int .i64 0 := hT 22 (by simp)
          have ff : x.tmps.getD 8 undef = .bool true := hT 8 (by simp)
          have bW := bX.trans (hS.mono bX.size)
          clear hT hS
          rw [act_lit 178 x hd hsz]
          simp only [List.range, List.range.loop, List.map, f0, f1, f2, f3, f4, f5, f6, f7, f9, f10, f11, f12, f13, f14, f15, f16, f17, f18, f19, f20, f21, f22, ff]
          clear f0 f1 f2 f3 f4 f5 f6 f7 f9 f10 f11 f12 f13 f14 f15 f16 f17 f18 f19 f20 f21 f22 ff
          have bF := b3.trans (bW.mono b3.size)
          go_wp2
          go_ret
          exact ⟨rfl, bF⟩
end Go.Proofs.Ytlfnmcagpokchaa
