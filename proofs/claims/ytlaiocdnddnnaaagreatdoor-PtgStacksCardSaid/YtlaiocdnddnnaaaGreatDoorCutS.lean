/- Contracts of the library, laid at this program: one application each. -/
/- le.U8, le.U16, le.I64 by their contracts. Condition: the bytes read as such. -/
/- str.isCut, str.getFlags by their contracts. Condition: the cuts read as rising numbers; the bytes read as such; the Cursor stands in them. -/
import Derived.Shelf.Strings.BuilderK
import Derived.Shelf.Strings.BuilderRune
import Derived.Shelf.Utf8.AppendRune
import Derived.Ground.Names2Prog
import Derived.Shelf.Slices.SearchI
import Derived.Shelf.Slices.Empties
import Derived.Test.YtlaiocdnddnnaaaGreatDoorProg
import Derived.Test.YtlaiocdnddnnaaaGreatDoorPut
set_option linter.unusedVariables false
set_option linter.unusedSimpArgs false
namespace Go.Proofs
open Go.Shelf
def Tryz.lays169_ren : Go.Shelf.Ren := ⟨fun | 169 => 142 | n => n, fun | 70 => 210 | 9 => 9 | 0 => 0 | 72 => 212 | 37 => 35 | 127 => 219 | 3 => 3 | 5 => 5 | n => n, fun | n => n⟩
theorem Tryz.lays169 : Go.Proofs.Lays.n169 Tryz.prog Tryz.lays169_ren := {
  mixed := by kernel_rfl
  f169 := Tryz.func142.trans (congrArg some (by kernel_rfl))
  t0 := Tryz.underlying0
  a0 := Tryz.isAgg0
  z0 := Tryz.sizeOf0
  v0 := Tryz.zeroValue0
  t3 := Tryz.underlying3
  a3 := Tryz.isAgg3
  z3 := Tryz.sizeOf3
  v3 := Tryz.zeroValue3
  t9 := Tryz.underlying9
  a9 := Tryz.isAgg9
  z9 := Tryz.sizeOf9
  v9 := Tryz.zeroValue9
  t37 := Tryz.underlying35
  a37 := Tryz.isAgg35
  z37 := Tryz.sizeOf35
  v37 := Tryz.zeroValue35
  t70 := Tryz.underlying210
  a70 := Tryz.isAgg210
  z70 := Tryz.sizeOf210
  v70 := Tryz.zeroValue210
  t72 := Tryz.underlying212
  a72 := Tryz.isAgg212
  z72 := Tryz.sizeOf212
  v72 := Tryz.zeroValue212
  t127 := Tryz.underlying219
  a127 := Tryz.isAgg219
  z127 := Tryz.sizeOf219
  v127 := Tryz.zeroValue219 }
theorem Tryz.Builder_Extra_169 : Builder.Extra Tryz.prog Tryz.lays169_ren := {
  sizeBuilder := by kernel_rfl
  liesBuilder := by kernel_rfl
  t5 := Tryz.underlying5
  a5 := Tryz.isAgg5
  z5 := Tryz.sizeOf5
  v5 := Tryz.zeroValue5
  infoByte := by kernel_rfl
  cellsByte := by kernel_rfl
  sizeByte := by kernel_rfl
  neB5 := by decide }
open Go.RowKit in
theorem Tryz.Builder_String_any_k (B b : Nat) (l : List UInt8) (w : World) (h : Lib.IsBuilderF 212 5 B b (Lib.byteCells l) w) (hBw : B ≤ w.heap.size) :
    Calls Tryz.prog 142 #[.pointer (some ⟨b, 0, none⟩)] w fun e w' => e = .returned (.string ⟨l.toArray⟩) ∧ (Lib.IsBuilderF 212 5 B b (Lib.byteCells l) w' ∧ Below B w w' ∧ Lib.OthersKept 5 (some b) w w') := Any.Builder_String_any_k Tryz.lays169 Tryz.Builder_Extra_169 B b l w h hBw
def Tryz.lays242_ren : Go.Shelf.Ren := ⟨fun | 242 => 145 | 278 => 148 | n => n, fun | 37 => 35 | 21 => 21 | 51 => 224 | 4 => 4 | 5 => 5 | 46 => 134 | n => n, fun | n => n⟩
theorem Tryz.lays242 : Go.Proofs.Lays.n242 Tryz.prog Tryz.lays242_ren := {
  mixed := by kernel_rfl
  f242 := Tryz.func145.trans (congrArg some (by kernel_rfl))
  f278 := Tryz.func148.trans (congrArg some (by kernel_rfl))
  t4 := Tryz.underlying4
  a4 := Tryz.isAgg4
  z4 := Tryz.sizeOf4
  v4 := Tryz.zeroValue4
  t5 := Tryz.underlying5
  a5 := Tryz.isAgg5
  z5 := Tryz.sizeOf5
  v5 := Tryz.zeroValue5
  t21 := Tryz.underlying21
  a21 := Tryz.isAgg21
  z21 := Tryz.sizeOf21
  v21 := Tryz.zeroValue21
  t37 := Tryz.underlying35
  a37 := Tryz.isAgg35
  z37 := Tryz.sizeOf35
  v37 := Tryz.zeroValue35
  t46 := Tryz.underlying134
  a46 := Tryz.isAgg134
  z46 := Tryz.sizeOf134
  v46 := Tryz.zeroValue134
  t51 := Tryz.underlying224
  a51 := Tryz.isAgg224
  z51 := Tryz.sizeOf224
  v51 := Tryz.zeroValue224 }
open Go.RowKit in
theorem Tryz.utf8_AppendRune_row (B : Nat) (v : Value) (n : Nat) (xs : List Value) (r : Int) (hr0 : -2147483648 ≤ r) (hr1 : r ≤ 2147483647) (w : World) (hown : w.ownsRowF B 5 1 v n xs) (hlen : n + 4 ≤ 140737488355328) (hBw : B ≤ w.heap.size) :
    Calls Tryz.prog 145 #[v, .int .i32 r] w fun e w' => ∃ v', e = .returned v' ∧ w'.ownsRowF B 5 1 v' (n + (Lib.runeCells r).length) (xs ++ Lib.runeCells r) ∧ ∃ o, (w.alloc o).grownBy w' v.ownBlock := Any.utf8_AppendRune_row Tryz.lays242 (by kernel_rfl) B v n xs r hr0 hr1 w hown hlen hBw
def Tryz.laysNm225_ren : Go.Shelf.Ren := ⟨fun | 25 => 146 | 31 => 149 | 32 => 150 | 37 => 151 | n => n, fun | 22 => 58 | 3 => 3 | 4 => 4 | 40 => 134 | 0 => 0 | n => n, fun | n => n⟩
theorem Tryz.laysNm225 : Go.Proofs.Lays2.n25 Tryz.prog Tryz.laysNm225_ren := {
  mixed := by kernel_rfl
  f25 := Tryz.func146.trans (congrArg some (by kernel_rfl))
  f31 := Tryz.func149.trans (congrArg some (by kernel_rfl))
  f32 := Tryz.func150.trans (congrArg some (by kernel_rfl))
  f37 := Tryz.func151.trans (congrArg some (by kernel_rfl))
  t0 := Tryz.underlying0
  a0 := Tryz.isAgg0
  z0 := Tryz.sizeOf0
  v0 := Tryz.zeroValue0
  t3 := Tryz.underlying3
  a3 := Tryz.isAgg3
  z3 := Tryz.sizeOf3
  v3 := Tryz.zeroValue3
  t4 := Tryz.underlying4
  a4 := Tryz.isAgg4
  z4 := Tryz.sizeOf4
  v4 := Tryz.zeroValue4
  t22 := Tryz.underlying58
  a22 := Tryz.isAgg58
  z22 := Tryz.sizeOf58
  v22 := Tryz.zeroValue58
  t40 := Tryz.underlying134
  a40 := Tryz.isAgg134
  z40 := Tryz.sizeOf134
  v40 := Tryz.zeroValue134 }
open Go.RowKit Go.Lib in
theorem Tryz.slices_BinarySearch_int (b off n c : Nat) (zs : List Int) (x : Int) (w : World) (hz : n ≤ zs.length) (hbig : n < 4611686018427387904) (hc : ∀ j, j < zs.length → w.cell? ⟨b, off + j, none⟩ = some (.int .i64 (zs.getD j 0))) (hs : (zs.take n).Pairwise (· ≤ ·)) :
    Calls Tryz.prog 146 #[.slice (some ⟨b, off, none⟩) n c, .int .i64 x] w fun e w' => e = .returned (.tuple #[.int .i64 ((zs.take n).countP (· < x) : Nat), .bool ((zs.take n).contains x)]) ∧ ∃ q, w' = w.drewN q := Any.slices_BinarySearch_int Tryz.laysNm225 b off n c zs x w hz hbig hc hs
open Go.RowKit Go.Lib in
theorem Tryz.slices_BinarySearch_int_empty (a : Option Addr) (c : Nat) (x : Int) (w : World) :
    Calls Tryz.prog 146 #[.slice a 0 c, .int .i64 x] w fun e w' => e = .returned (.tuple #[.int .i64 0, .bool false]) ∧ w' = w := Any.slices_BinarySearch_int_empty Tryz.laysNm225 a c x w
end Go.Proofs
namespace Go.Proofs.YtlaiocdnddnnaaaGreatDoor
open Go.RowKit
theorem two_below (w : World) (o o' : Obj) : Below w.heap.size w ((w.alloc o).alloc o') := ((Below.refl w.heap.size w).alloc (Nat.le_refl _) _).alloc (by simp) _
theorem num_lt {l : List UInt8} {k m : Nat} (h : l.length ≤ k) (hm : 256 ^ k ≤ m) : numN l < m :=
  Nat.lt_of_lt_of_le (numN_lt l) (Nat.le_trans (Nat.pow_le_pow_right (by omega) h) hm)
theorem Rd.drew {w : World} {B k n : Nat} {A : Option Addr} {xs : List Value} (h : Rd w B k A n xs) : Rd w.drew B k A n xs := ⟨h.len, h.at_⟩
theorem Rd.alloc {w : World} {B k n : Nat} {A : Option Addr} {xs : List Value} (h : Rd w B k A n xs) (hB : B ≤ w.heap.size) (o : Obj) : Rd (w.alloc o) B k A n xs := h.belowMono ((Below.refl w.heap.size w).alloc (Nat.le_refl _) o) hB
set_option maxHeartbeats 1000000 in
theorem u8_any {w : World} {B n c : Nat} {at_ : Int} {A : Option Addr} {l : List UInt8} (h : Rd w B 1 A n (l.map bv)) (hnc : n ≤ c) (hn : n ≤ 1000000000000000000) (hB : B ≤ w.heap.size) :
    Calls Tryz.prog 102 #[.agg #[.slice A n c, .int .i64 at_]] w fun e w' => e = .returned (.tuple #[.int .i64 ((numN (tkL l at_ 1) : Nat)), .agg #[.slice A n c, .int .i64 (tkAt at_ 1 n)], .int .i64 (tkE at_ 1 n)]) ∧ Below w.heap.size w w' := by
  have hlen : (tkL l at_ 1).length ≤ 1 := tkL_len l at_ 1; have hT := take_any (k := 1) (at_ := at_) (h.belowMono (two_below w (.cells #[.slice A n c, .int .i64 at_] 82) (.cells #[.slice none 0 0, .int .i64 0] 82)) hB) hnc hn; have hlt : numN (tkL l at_ 1) < 256 := num_lt hlen (by decide); have hw : IntKind.i64.wrap ((numN (tkL l at_ 1) : Nat) : Int) = (numN (tkL l at_ 1) : Nat) := IntWalk.i64_in _ (by omega); generalize tkL l at_ 1 = L at *; generalize tkAt at_ 1 n = at1 at *; generalize tkE at_ 1 n = e1 at *; have HT := Lib.hid hT; have HW := Lib.hid hw; clear hw; clear hT; go_enter Tryz.func102, Tryz.ntmps102
  go_wp2_with fail
  refine HT.out.mono ?_; rintro e w1 ⟨A', c', rfl, hc', hr, hb1⟩; obtain ⟨k1, k2, hb', s1⟩ := two_boxes hb1; have hr1 := hr.belowMono hb1 (by simp; omega); go_wp2; have k2' := k2.alloc (.cells #[.slice A n c, .int .i64 at1] 82); have k3 := Bk.new w1 82 #[.slice A n c, .int .i64 at1]; have hr2 := (hr1.alloc (by omega) (.cells #[.slice A n c, .int .i64 at1] 82)).drew; have hbW := hb'.alloc hb'.size (.cells #[.slice A n c, .int .i64 at1] 82); generalize w1.alloc (.cells #[.slice A n c, .int .i64 at1] 82) = W at *; have f0 := k3.cell 0; have f1 := k3.cell 1; have d0 := k2'.cell 0; have d1 := k2'.cell 1; have z0 := k2'.frozen 0; have z1 := k2'.frozen 1; have hwo := HW.out
  go_region_with ((go_at_call 117; refine (number_any hr2 (by omega)).mono ?_; rintro e w2 ⟨rfl, rfl⟩))
  all_goals
    go_wp2; exact bodyPost_ret (v := .tuple #[.int .i64 ((numN L : Nat)), .agg #[.slice A n c, .int .i64 at1], .int .i64 e1]) (by simp [results, Tryz.results102, go_sem, d0, d1]) rfl ⟨rfl, ((hbW.setCell (by simp) _).setCell (by simp) _).drew⟩
set_option maxHeartbeats 1000000 in
theorem u16_any {w : World} {B n c : Nat} {at_ : Int} {A : Option Addr} {l : List UInt8} (h : Rd w B 1 A n (l.map bv)) (hnc : n ≤ c) (hn : n ≤ 1000000000000000000) (hB : B ≤ w.heap.size) :
    Calls Tryz.prog 125 #[.agg #[.slice A n c, .int .i64 at_]] w fun e w' => e = .returned (.tuple #[.int .i64 ((numN (tkL l at_ 2) : Nat)), .agg #[.slice A n c, .int .i64 (tkAt at_ 2 n)], .int .i64 (tkE at_ 2 n)]) ∧ Below w.heap.size w w' := by
  have hlen : (tkL l at_ 2).length ≤ 2 := tkL_len l at_ 2; have hT := take_any (k := 2) (at_ := at_) (h.belowMono (two_below w (.cells #[.slice A n c, .int .i64 at_] 82) (.cells #[.slice none 0 0, .int .i64 0] 82)) hB) hnc hn; have hlt : numN (tkL l at_ 2) < 65536 := num_lt hlen (by decide); have hw : IntKind.i64.wrap ((numN (tkL l at_ 2) : Nat) : Int) = (numN (tkL l at_ 2) : Nat) := IntWalk.i64_in _ (by omega); generalize tkL l at_ 2 = L at *; generalize tkAt at_ 2 n = at1 at *; generalize tkE at_ 2 n = e1 at *; have HT := Lib.hid hT; have HW := Lib.hid hw; clear hw; clear hT; go_enter Tryz.func125, Tryz.ntmps125
  go_wp2_with fail
  refine HT.out.mono ?_; rintro e w1 ⟨A', c', rfl, hc', hr, hb1⟩; obtain ⟨k1, k2, hb', s1⟩ := two_boxes hb1; have hr1 := hr.belowMono hb1 (by simp; omega); go_wp2; have k2' := k2.alloc (.cells #[.slice A n c, .int .i64 at1] 82); have k3 := Bk.new w1 82 #[.slice A n c, .int .i64 at1]; have hr2 := (hr1.alloc (by omega) (.cells #[.slice A n c, .int .i64 at1] 82)).drew; have hbW := hb'.alloc hb'.size (.cells #[.slice A n c, .int .i64 at1] 82); generalize w1.alloc (.cells #[.slice A n c, .int .i64 at1] 82) = W at *; have f0 := k3.cell 0; have f1 := k3.cell 1; have d0 := k2'.cell 0; have d1 := k2'.cell 1; have z0 := k2'.frozen 0; have z1 := k2'.frozen 1; have hwo := HW.out
  go_region_with ((go_at_call 117; refine (number_any hr2 (by omega)).mono ?_; rintro e w2 ⟨rfl, rfl⟩))
  all_goals
    go_wp2; exact bodyPost_ret (v := .tuple #[.int .i64 ((numN L : Nat)), .agg #[.slice A n c, .int .i64 at1], .int .i64 e1]) (by simp [results, Tryz.results125, go_sem, d0, d1]) rfl ⟨rfl, ((hbW.setCell (by simp) _).setCell (by simp) _).drew⟩
set_option maxHeartbeats 1000000 in
theorem i64_any {w : World} {B n c : Nat} {at_ : Int} {A : Option Addr} {l : List UInt8} (h : Rd w B 1 A n (l.map bv)) (hnc : n ≤ c) (hn : n ≤ 1000000000000000000) (hB : B ≤ w.heap.size) :
    Calls Tryz.prog 133 #[.agg #[.slice A n c, .int .i64 at_]] w fun e w' => e = .returned (.tuple #[.int .i64 (IntKind.i64.wrap ((numN (tkL l at_ 8) : Nat))), .agg #[.slice A n c, .int .i64 (tkAt at_ 8 n)], .int .i64 (tkE at_ 8 n)]) ∧ Below w.heap.size w w' := by
  have hlen : (tkL l at_ 8).length ≤ 8 := tkL_len l at_ 8; have hT := take_any (k := 8) (at_ := at_) (h.belowMono (two_below w (.cells #[.slice A n c, .int .i64 at_] 82) (.cells #[.slice none 0 0, .int .i64 0] 82)) hB) hnc hn; generalize tkL l at_ 8 = L at *; generalize tkAt at_ 8 n = at1 at *; generalize tkE at_ 8 n = e1 at *; have HT := Lib.hid hT; clear hT; go_enter Tryz.func133, Tryz.ntmps133
  go_wp2_with fail
  refine HT.out.mono ?_; rintro e w1 ⟨A', c', rfl, hc', hr, hb1⟩; obtain ⟨k1, k2, hb', s1⟩ := two_boxes hb1; have hr1 := hr.belowMono hb1 (by simp; omega); go_wp2; have k2' := k2.alloc (.cells #[.slice A n c, .int .i64 at1] 82); have k3 := Bk.new w1 82 #[.slice A n c, .int .i64 at1]; have hr2 := (hr1.alloc (by omega) (.cells #[.slice A n c, .int .i64 at1] 82)).drew; have hbW := hb'.alloc hb'.size (.cells #[.slice A n c, .int .i64 at1] 82); generalize w1.alloc (.cells #[.slice A n c, .int .i64 at1] 82) = W at *; have f0 := k3.cell 0; have f1 := k3.cell 1; have d0 := k2'.cell 0; have d1 := k2'.cell 1; have z0 := k2'.frozen 0; have z1 := k2'.frozen 1
  go_region_with ((go_at_call 117; refine (number_any hr2 (by omega)).mono ?_; rintro e w2 ⟨rfl, rfl⟩))
  all_goals
    go_wp2; exact bodyPost_ret (v := .tuple #[.int .i64 (IntKind.i64.wrap ((numN L : Nat))), .agg #[.slice A n c, .int .i64 at1], .int .i64 e1]) (by simp [results, Tryz.results133, go_sem, d0, d1]) rfl ⟨rfl, ((hbW.setCell (by simp) _).setCell (by simp) _).drew⟩
end Go.Proofs.YtlaiocdnddnnaaaGreatDoor
namespace Go.Proofs.YtlaiocdnddnnaaaGreatDoor
open Go.RowKit Go.Lib
def iv (x : Int) : Value := .int .i64 x
structure CutS (w : World) (B : Nat) (A : Option Addr) (n : Nat) (cs : List Int) : Prop where
  rd : Rd w B 1 A n (cs.map iv)
  up : cs.Pairwise (· ≤ ·)
  at_ : n = 0 ∨ ∃ g o, A = some ⟨g, o, none⟩
  few : n ≤ 1000000
theorem CutS.belowMono {w w' : World} {B B' n : Nat} {A : Option Addr} {cs : List Int} (h : CutS w B A n cs) (hb : Below B' w w') (hB : B ≤ B') : CutS w' B A n cs := ⟨h.rd.belowMono hb hB, h.up, h.at_, h.few⟩
theorem CutS.len {w : World} {B n : Nat} {A : Option Addr} {cs : List Int} (h : CutS w B A n cs) : cs.length = n := by
  have := h.rd.len
  simpa using this
theorem CutS.nil (w : World) (B : Nat) (A : Option Addr) : CutS w B A 0 [] := ⟨Rd.nil _ _ _ _, .nil, .inl rfl, by omega⟩
theorem below_drewN {B : Nat} {a w : World} (h : Below B a w) : ∀ q, Below B a (w.drewN q)
  | 0 => h
  | q + 1 => (below_drewN h q).drew
theorem isCut_any {w : World} {B n c : Nat} {A : Option Addr} {cs : List Int} {x : Int} (h : CutS w B A n cs) :
    Calls Tryz.prog 143 #[.slice A n c, .int .i64 x] w fun e w' => e = .returned (.bool (cs.contains x)) ∧ Below w.heap.size w w' := by
  have hl := h.len
  rcases Nat.eq_zero_or_pos n with h0 | h0
  · subst h0; obtain rfl : cs = [] := List.eq_nil_of_length_eq_zero hl; clear h; go_enter Tryz.func143, Tryz.ntmps143
    go_wp2_with fail
    refine (Tryz.slices_BinarySearch_int_empty A c x _).mono ?_; rintro e w1 ⟨rfl, rfl⟩; go_wp2; go_ret; exact ⟨rfl, Below.refl _ _⟩
  · obtain ⟨g, o, rfl⟩ : ∃ g o, A = some ⟨g, o, none⟩ := by
      rcases h.at_ with h1 | h1
      · omega
      · exact h1
    have hc : ∀ j, j < cs.length → w.cell? ⟨g, o + j, none⟩ = some (.int .i64 (cs.getD j 0)) := by
      intro j hj; obtain ⟨a, ha, _, hcell⟩ := h.rd.at_ h0; injection ha with ha; subst ha; have := hcell j (iv (cs.getD j 0)) (by rw [List.getElem?_map, List.getElem?_eq_getElem hj, List.getD_eq_getElem?_getD, List.getElem?_eq_getElem hj]; rfl)
      have he : (⟨g, o, none⟩ : Addr).add j = ⟨g, o + j, none⟩ := by
        unfold Addr.add
        split
        · rename_i hj0
          subst hj0; rfl
        · rfl
      rw [he] at this; exact this
    have hs : (cs.take n).Pairwise (· ≤ ·) := by rw [List.take_of_length_le (by omega)]; exact h.up
    have HC := Tryz.slices_BinarySearch_int g o n c cs x w (by omega) (by have := h.few; omega) hc hs; rw [List.take_of_length_le (show cs.length ≤ n by omega)] at HC; clear hc hs h; have HC2 := Lib.hid HC; clear HC; generalize (cs.countP (· < x)) = K at *; generalize cs.contains x = R at *; go_enter Tryz.func143, Tryz.ntmps143
    go_wp2_with fail
    refine HC2.out.mono ?_; rintro e w1 ⟨rfl, q, rfl⟩; have hb := below_drewN (Below.refl w.heap.size w) q; go_wp2; go_ret; exact ⟨rfl, hb⟩
theorem u8_in {l : List UInt8} {n at_ : Nat} (hl : l.length = n) (h : at_ < n) : ((numN (tkL l at_ 1) : Nat) : Int) = ((l.getD at_ 0).toNat : Int) ∧ tkAt at_ 1 n = ((at_ + 1 : Nat) : Int) ∧ tkE at_ 1 n = 0 := by
  have e : tkE (at_ : Int) 1 n = 0 := by
    unfold tkE stB; rw [if_neg (by rw [decide_eq_true (by omega)]; simp), if_neg (by omega)]
  refine ⟨?_, ?_, e⟩
  · unfold tkL; rw [if_pos (by rw [hl]; exact e)]
    have h1 : (l.drop at_).take 1 = [l.getD at_ 0] := by
      rw [List.getD_eq_getElem?_getD, List.getElem?_eq_getElem (by omega)]; rw [List.drop_eq_getElem_cons (by omega)]; rfl
    have h2 : ((l.drop (at_ : Int).toNat).take (1 : Int).toNat) = [l.getD at_ 0] := by simpa using h1
    rw [h2]; simp [numN]
  · unfold tkAt; rw [if_pos e]; omega
theorem u8_end {l : List UInt8} {n : Nat} (hl : l.length = n) : numN (tkL l (n : Int) 1) = 0 ∧ tkAt n 1 n = (n : Int) ∧ tkE n 1 n = 5 := by
  have e : tkE (n : Int) 1 n = 5 := by
    unfold tkE stB; rw [if_neg (by rw [decide_eq_true (by omega)]; simp), if_pos (by omega)]
  refine ⟨?_, ?_, e⟩
  · unfold tkL; rw [if_neg (by rw [hl, e]; decide)]; rfl
  · unfold tkAt; rw [if_neg (by rw [e]; decide)]
end Go.Proofs.YtlaiocdnddnnaaaGreatDoor
