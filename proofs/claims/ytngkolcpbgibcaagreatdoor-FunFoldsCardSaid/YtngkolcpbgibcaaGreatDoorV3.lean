/- str.Units by its contract. Condition: utf8.ValidString keeps its contract (its tables are laid); a text's length is one. -/
/- The library's contract of utf8.ValidString, laid at this program; its two tables. Condition: the tables are laid as their initialisers lay them. -/
/- val.Check by its contract. Condition: utf8.ValidString keeps its contract (its tables are laid). -/
/- val.compareTexts by its contract: texts in order by their runes. Condition: the texts are not too long. -/
/- val.Compare by its contract. Condition: the texts are not too long. -/
import Derived.Test.YtngkolcpbgibcaaGreatDoorProg
import Derived.Test.YtngkolcpbgibcaaGreatDoorEarly
import Derived.Test.YtngkolcpbgibcaaGreatDoorJoin
import Derived.Lib.RuneCount
import Derived.Laws.Runes
import Derived.Laws.RangeAny
import Derived.Shelf.Unicode.ValidAny
import Derived.Test.YtngkolcpbgibcaaGreatDoorD5
import Derived.Test.YtngkolcpbgibcaaGreatDoorTq
import Derived.Laws.IdiomStrings
set_option linter.unusedVariables false
set_option linter.unusedSimpArgs false
namespace Go.Proofs.YtngkolcpbgibcaaGreatDoor
open Go.RowKit Go.Lib
def Val (w : World) : Prop := ∀ (s : ByteArray) (W : World), s.size ≤ 140737488355328 → Below w.heap.size w W →
  Calls Tryz.prog 142 #[.string s] W fun e w' => e = .returned (.bool (validD s.data.toList)) ∧ Below W.heap.size W w'
theorem Val.below {w w' : World} (h : Val w) (hb : Below w.heap.size w w') : Val w' := fun s W hs hb' =>
  h s W hs (hb.trans (hb'.mono hb.size))
theorem uni_len (r : Int) : (uni r).length = if 65536 ≤ r then 2 else 1 := by
  unfold uni
  by_cases h : r < 65536
  · rw [if_pos h, if_neg (by omega)]; rfl
  · rw [if_neg h, if_pos (by omega)]; rfl
theorem unN_at (s : ByteArray) (pos : Nat) (h : pos < s.size) : unN (s.data.toList.drop pos) = (if 65536 ≤ ((Utf8.decode s pos).1 : Int) then 2 else 1) + unN (s.data.toList.drop (pos + (Utf8.decode s pos).2)) := by
  unfold unN unis; rw [rns_at s pos h, List.flatMap_cons, List.length_append, uni_len]
theorem unN_end (s : ByteArray) (pos : Nat) (h : ¬ pos < s.size) : unN (s.data.toList.drop pos) = 0 := by
  unfold unN unis; rw [rns_end s pos h]; rfl
set_option maxHeartbeats 4000000 in
set_option maxRecDepth 100000 in
theorem units_any {w : World} (HV : Val w) (s : ByteArray) (hs : s.size ≤ 140737488355328) :
    Calls Tryz.prog 64 #[.string s] w fun e w' => e = .returned (.tuple #[.int .i64 (uV s.data.toList), .int .i64 (uE s.data.toList)]) ∧ Below w.heap.size w w' := by
  have HC := HV s w hs (Below.refl _ _); clear HV
  cases hv : validD s.data.toList
  · have e1 : uE s.data.toList = 2 := by unfold uE; rw [if_pos hv]
    have e2 : uV s.data.toList = 0 := by unfold uV; rw [e1]; rfl
    rw [e1, e2]; rw [hv] at HC; clear hv e1 e2; go_enter Tryz.func64, Tryz.ntmps64
    go_wp2_with fail
    refine HC.mono ?_; rintro e w1 ⟨rfl, hb1⟩; go_wp2
    go_ret2
    exact ⟨rfl, hb1⟩
  · rw [hv] at HC; have e1 : uE s.data.toList = if 1000 < unN s.data.toList then 4 else 0 := by unfold uE; rw [if_neg (by rw [hv]; decide)]
    have e2 : uV s.data.toList = if 1000 < unN s.data.toList then 0 else (unN s.data.toList : Int) := by
      unfold uV; rw [e1]
      by_cases h : 1000 < unN s.data.toList
      · rw [if_pos h, if_pos h]; rfl
      · rw [if_neg h, if_neg h]; rfl
    rw [e1, e2]; clear hv e1 e2; obtain ⟨N, hN⟩ : ∃ N, unN s.data.toList = N := ⟨_, rfl⟩
    have H0 := Lib.hid hN; rw [hN]; clear hN; obtain ⟨V, hV⟩ : ∃ V, (if 1000 < N then 0 else (N : Int)) = V := ⟨_, rfl⟩
    obtain ⟨E, hE⟩ : ∃ E : Int, (if 1000 < N then 4 else 0) = E := ⟨_, rfl⟩
    rw [hV, hE]; have HV := Lib.hid hV; have HE := Lib.hid hE; clear hV hE; go_enter Tryz.func64, Tryz.ntmps64
    go_wp2_with fail
    refine HC.mono ?_; rintro e w1 ⟨rfl, hb1⟩; clear HC; go_wp2
    go_loopw [4] (fun n w' => ∃ pos acc : Nat, w' = w1.iter s pos ∧ n = .int .i64 acc ∧ acc + unN (s.data.toList.drop pos) = N ∧ acc ≤ 2 * pos ∧ pos ≤ s.size) (fun _ w' => s.size - w'.iterPos w1.heap.size)
    case atStart => exact ⟨0, 0, rfl, rfl, by rw [List.drop_zero, H0.out]; omega, by omega, by omega⟩
    case round =>
      obtain ⟨pos, acc, rfl, rfl, hc, ha, hp0⟩ := hrel
      by_cases hp : pos < s.size
      · have hnx : ∀ ty, (Instr.next (.pointer (some ⟨w1.heap.size, 0, none⟩)) true ty).run Tryz.prog (w1.iter s pos) = _ := fun ty => run_next_any w1 s pos ty hp; have hwd := Lib.decode_width_pos s pos hp; have hst := Lib.hid (unN_at s pos hp); have hle : pos + (Utf8.decode s pos).2 ≤ s.size := decode_le s pos hp; have HC := Lib.hid hc; clear hc; generalize hr : ((Utf8.decode s pos).1 : Int) = r at *; generalize hk : (Utf8.decode s pos).2 = k at *
        by_cases hbig : 65536 ≤ r
        · go_wp2
          go_roundw
          case rel =>
            have h1 := HC.out; have h2 := hst.out; rw [if_pos hbig] at h2; exact ⟨pos + k, acc + 2, rfl, by go_num, by omega, by omega, hle⟩
          case measure =>
            simp; omega
        · go_wp2
          go_roundw
          case rel =>
            have h1 := HC.out; have h2 := hst.out; rw [if_neg hbig] at h2; exact ⟨pos + k, acc + 1, rfl, by go_num, by omega, by omega, hle⟩
          case measure =>
            simp; omega
      · have hnx : ∀ ty, (Instr.next (.pointer (some ⟨w1.heap.size, 0, none⟩)) true ty).run Tryz.prog (w1.iter s pos) = _ := fun ty => run_next_end w1 s pos ty hp; have hN : acc = N := by rw [unN_end s pos hp] at hc; omega
        clear hc H0; subst hN; have hbF : Below w.heap.size w (w1.iter s pos) := hb1.alloc hb1.size _
        by_cases hl : 1000 < acc
        · have hl' : (1000 : Int) < (acc : Int) := by omega
          have hV := HV.out; have hE := HE.out; rw [if_pos hl] at hV hE; subst hV hE; clear HV HE; go_wp2
          go_ret2
          exact ⟨rfl, hbF⟩
        · have hl' : ¬ (1000 : Int) < (acc : Int) := by omega
          have hV := HV.out; have hE := HE.out; rw [if_neg hl] at hV hE; subst hV hE; clear HV HE; go_wp2
          go_ret2
          exact ⟨rfl, hbF⟩
end Go.Proofs.YtngkolcpbgibcaaGreatDoor
namespace Go.Proofs
open Go.Shelf Go.Lib
def Tryz.laysV_ren : Ren := ⟨fun | 196 => 142 | 259 => 187 | n => n, fun | 0 => 0 | 3 => 3 | 4 => 4 | 5 => 5 | 9 => 9 | 12 => 12 | 46 => 115 | 53 => 117 | 119 => 229 | 138 => 231 | 139 => 232 | n => n, fun | 3 => 1 | 4 => 2 | n => n⟩
theorem Tryz.laysV : Lays.n196 Tryz.prog Tryz.laysV_ren := {
  mixed := by kernel_rfl
  f196 := Tryz.func142.trans (congrArg some (by kernel_rfl))
  f259 := Tryz.func187.trans (congrArg some (by kernel_rfl))
  t0 := Tryz.underlying0
  a0 := Tryz.isAgg0
  z0 := Tryz.sizeOf0
  v0 := Tryz.zeroValue0
  t3 := Tryz.underlying3
  a3 := Tryz.isAgg3
  z3 := Tryz.sizeOf3
  v3 := Tryz.zeroValue3
  t4 := Tryz.underlying4
  a4 := Tryz.isAgg4
  z4 := Tryz.sizeOf4
  v4 := Tryz.zeroValue4
  t5 := Tryz.underlying5
  a5 := Tryz.isAgg5
  z5 := Tryz.sizeOf5
  v5 := Tryz.zeroValue5
  t9 := Tryz.underlying9
  a9 := Tryz.isAgg9
  z9 := Tryz.sizeOf9
  v9 := Tryz.zeroValue9
  t12 := Tryz.underlying12
  a12 := Tryz.isAgg12
  z12 := Tryz.sizeOf12
  v12 := Tryz.zeroValue12
  t46 := Tryz.underlying115
  a46 := Tryz.isAgg115
  z46 := Tryz.sizeOf115
  v46 := Tryz.zeroValue115
  t53 := Tryz.underlying117
  a53 := Tryz.isAgg117
  z53 := Tryz.sizeOf117
  v53 := Tryz.zeroValue117
  t119 := Tryz.underlying229
  a119 := Tryz.isAgg229
  z119 := Tryz.sizeOf229
  t138 := Tryz.underlying231
  a138 := Tryz.isAgg231
  z138 := Tryz.sizeOf231
  v138 := Tryz.zeroValue231
  t139 := Tryz.underlying232
  a139 := Tryz.isAgg232
  z139 := Tryz.sizeOf232
  v139 := Tryz.zeroValue232
  g3 := by kernel_rfl
  g4 := by kernel_rfl }
namespace YtngkolcpbgibcaaGreatDoor
def Tabs (w : World) : Prop := Lib.Utf8Tabs (Tryz.laysV_ren.g 3) (Tryz.laysV_ren.g 4) w
theorem val_of {w : World} (h : Tabs w) : Val w := fun s W hz hb =>
  Any.utf8_ValidString Tryz.laysV s W (by omega) (Utf8Tabs_below h hb)
end YtngkolcpbgibcaaGreatDoor
end Go.Proofs
namespace Go.Proofs.YtngkolcpbgibcaaGreatDoor
open Go.RowKit
end Go.Proofs.YtngkolcpbgibcaaGreatDoor
namespace Go.Proofs.YtngkolcpbgibcaaGreatDoor
open Go.RowKit Go.Lib
def r32 (x : Int) : Value := .int .i32 x
theorem runes_list (s : ByteArray) : ∀ (bound i : Nat) (acc : Array Value), s.size - i ≤ bound → (Conv.runesFrom s bound i acc).toList = acc.toList ++ (rns (s.data.toList.drop i)).map r32
  | 0, i, acc, h => by rw [Conv.runesFrom, rns_end s i (by omega)]; simp
  | bound + 1, i, acc, h => by
    unfold Conv.runesFrom
    by_cases hi : i < s.size
    · rw [if_pos hi]; have hw := Lib.decode_width_pos s i hi; dsimp only; rw [runes_list s bound _ _ (by omega), rns_at s i hi]; simp [r32]
    · rw [if_neg hi, rns_end s i hi]; simp
theorem cmp_ne {x y : Int} {a b : List Int} (h : ¬ x = y) : cmpR (x :: a) (y :: b) = cmp x y := by
  rw [cmpR]; unfold cmp
  by_cases h1 : x < y
  · rw [if_pos h1, if_pos h1]
  · rw [if_neg h1, if_pos (by omega), if_neg h1, if_neg h]
theorem cmp_tail {a : List Int} {k : Nat} (h : k ≤ a.length) : cmpR [] (a.drop k) = cmp (k : Int) (a.length : Int) := by
  by_cases hk : k = a.length
  · subst hk; rw [List.drop_length, cmpR]; exact ((cmp_zero _ _).2 rfl).symm
  · rw [List.drop_eq_getElem_cons (by omega), cmpR]; unfold cmp; rw [if_pos (by omega)]
set_option maxHeartbeats 4000000 in
set_option maxRecDepth 100000 in
theorem compareTexts_any {w : World} (a b : ByteArray) (ha : a.size ≤ 140737488355328) (hb : b.size ≤ 70368744177664) :
    Calls Tryz.prog 84 #[.string a, .string b] w fun e w' => e = .returned (.int .i64 (cmpR (rns a.data.toList) (rns b.data.toList))) ∧ Below w.heap.size w w' := by
  have hn : (Conv.runesFrom b b.size 0 #[]).size ≤ b.size := by have := size_runesFrom b b.size 0 #[]; simpa using this
  have hcv := run_runes_of_string (P := Tryz.prog) w 9 52 21 b Tryz.underlying9 Tryz.underlying52 Tryz.underlying21 (by omega); have hl : (Conv.runesFrom b b.size 0 #[]).toList = (rns b.data.toList).map r32 := by rw [runes_list b b.size 0 #[] (by omega)]; simp
  have hsz : (Conv.runesFrom b b.size 0 #[]).size = (rns b.data.toList).length := by
    have := congrArg List.length hl
    simpa using this
  have hcell : ∀ i x, (rns b.data.toList)[i]? = some x → (w.drew.alloc (.cells (Conv.runesFrom b b.size 0 #[] ++ Array.replicate (grownCap w (Conv.runesFrom b b.size 0 #[]).size 0 21 - (Conv.runesFrom b b.size 0 #[]).size) (.int .i32 0)) 21)).cell? ⟨w.heap.size, i, none⟩ = some (.int .i32 x) := by
    intro i x hx; have hi : i < (rns b.data.toList).length := (List.getElem?_eq_some_iff.1 hx).1; have := World.cell?_alloc_new w.drew (Conv.runesFrom b b.size 0 #[] ++ Array.replicate (grownCap w (Conv.runesFrom b b.size 0 #[]).size 0 21 - (Conv.runesFrom b b.size 0 #[]).size) (.int .i32 0)) 21 i; rw [show w.drew.heap.size = w.heap.size from rfl] at this; rw [this, Array.getElem?_append_left (by omega), ← Array.getElem?_toList, hl, List.getElem?_map, hx]; rfl
  have hbel : Below w.heap.size w (w.drew.alloc (.cells (Conv.runesFrom b b.size 0 #[] ++ Array.replicate (grownCap w (Conv.runesFrom b b.size 0 #[]).size 0 21 - (Conv.runesFrom b b.size 0 #[]).size) (.int .i32 0)) 21)) := ((Below.refl _ _).drew).alloc (Nat.le_refl _) _; have hszw : (w.drew.alloc (.cells (Conv.runesFrom b b.size 0 #[] ++ Array.replicate (grownCap w (Conv.runesFrom b b.size 0 #[]).size 0 21 - (Conv.runesFrom b b.size 0 #[]).size) (.int .i32 0)) 21)).heap.size = w.heap.size + 1 := by simp
  generalize w.drew.alloc (.cells (Conv.runesFrom b b.size 0 #[] ++ Array.replicate (grownCap w (Conv.runesFrom b b.size 0 #[]).size 0 21 - (Conv.runesFrom b b.size 0 #[]).size) (.int .i32 0)) 21) = W1 at *; rw [hsz] at hn; generalize grownCap w (Conv.runesFrom b b.size 0 #[]).size 0 21 = cap at *; rw [hsz] at hcv; clear hl hsz; have HB := Lib.hid hb; have HZ := Lib.hid hszw; clear hszw; clear hb; generalize hR : rns b.data.toList = R at *; clear hR; obtain ⟨C, hC⟩ : ∃ C, cmpR (rns a.data.toList) R = C := ⟨_, rfl⟩
  have H0 := Lib.hid hC; rw [hC]; clear hC; obtain ⟨n, hn0⟩ : ∃ n, R.length = n := ⟨_, rfl⟩
  have HN := Lib.hid hn0; rw [hn0] at hcv hn; clear hn0; have HC := Lib.hid hcell; have HI := Lib.hid (fun (W : World) (x y : Int) => cmp_int (w := W) x y); have HU := Lib.hid (fun (W : World) (x y : Int) => cmp_rune (w := W) x y); clear hcell; go_enter Tryz.func84, Tryz.ntmps84; go_wp2; clear hcv
  go_loopw [6] (fun q w' => ∃ pos k : Nat, w' = W1.iter a pos ∧ q = .int .i64 k ∧ k ≤ n ∧ pos ≤ a.size ∧ k ≤ pos ∧ Hid (cmpR (rns (a.data.toList.drop pos)) (R.drop k) = C)) (fun _ w' => a.size - w'.iterPos W1.heap.size)
  case atStart => exact ⟨0, 0, rfl, rfl, Nat.zero_le _, Nat.zero_le _, Nat.le_refl _, Lib.hid (by rw [List.drop_zero, List.drop_zero, H0.out])⟩
  case round =>
    obtain ⟨pos, k, rfl, rfl, hk, hp0, hkp, HS⟩ := hrel
    by_cases hp : pos < a.size
    · have hnx : ∀ ty, (Instr.next (.pointer (some ⟨W1.heap.size, 0, none⟩)) true ty).run Tryz.prog (W1.iter a pos) = _ := fun ty => run_next_any W1 a pos ty hp; have hwd := Lib.decode_width_pos a pos hp; have hle : pos + (Utf8.decode a pos).2 ≤ a.size := decode_le a pos hp; have hst := Lib.hid (rns_at a pos hp); generalize ((Utf8.decode a pos).1 : Int) = r at *; generalize (Utf8.decode a pos).2 = wd at *
      by_cases hkn : k = n
      · subst hkn
        obtain rfl : C = 1 := by
          have := HS.out; rw [hst.out, show R.drop k = [] from List.drop_of_length_le (by rw [HN.out]; exact Nat.le_refl _)] at this; exact this.symm
        have hbF : ∀ p, Below w.heap.size w (W1.iter a p) := fun p => hbel.alloc hbel.size _; clear hst HS HC HI HU; go_wp2; go_ret; exact ⟨rfl, hbF _⟩
      · have hkn' : ¬ (k : Int) = (n : Int) := by omega
        have hlt : (k : Int) < (n : Int) := by omega
        have hltn : k < n := by omega
        obtain ⟨x, hx⟩ : ∃ x, R[k]? = some x := ⟨_, List.getElem?_eq_getElem (by rw [HN.out]; exact hltn)⟩
        have hd : R.drop k = x :: R.drop (k + 1) := by
          have hkl : k < R.length := by rw [HN.out]; exact hltn
          rw [List.drop_eq_getElem_cons hkl]; rw [List.getElem?_eq_getElem hkl] at hx; injection hx with hx; rw [hx]
        have HD := Lib.hid hd; have hc0 := HC.out k x hx
        have hc1 : ∀ p, (W1.iter a p).cell? ⟨w.heap.size, k, none⟩ = some (.int .i32 x) := fun p => by
          rw [← hc0]; exact (bcell ((Below.refl _ W1).alloc (Nat.le_refl _) _)).1 _ _ (by rw [HZ.out]; omega)
        clear hx hd hc0 hkn
        by_cases hrx : r = x
        · subst hrx; go_wp2
          go_roundw
          case rel =>
            have := HS.out; rw [hst.out, HD.out, cmpR_eq rfl] at this; exact ⟨pos + wd, k + 1, rfl, by go_num, by omega, hle, by omega, Lib.hid this⟩
          case measure =>
            simp; omega
        · have HV := Lib.hid (show cmp r x = C by
            rw [← HS.out, hst.out, HD.out, cmp_ne hrx])
          have hbF : ∀ p, Below w.heap.size w (W1.iter a p) := fun p => hbel.alloc hbel.size _; clear hst HS HC HI HD
          go_wp2_with fail
          refine (HU.out _ _ _).mono ?_; rintro e w2 ⟨rfl, rfl⟩; rw [HV.out]; go_wp2; go_ret; exact ⟨rfl, hbF _⟩
    · have hnx : ∀ ty, (Instr.next (.pointer (some ⟨W1.heap.size, 0, none⟩)) true ty).run Tryz.prog (W1.iter a pos) = _ := fun ty => run_next_end W1 a pos ty hp
      have HV := Lib.hid (show cmp (k : Int) (n : Int) = C by
        rw [← HS.out, rns_end a pos hp, ← HN.out, cmp_tail (by rw [HN.out]; exact hk)])
      have hbF : ∀ p, Below w.heap.size w (W1.iter a p) := fun p => hbel.alloc hbel.size _; clear HS HC HU
      go_wp2_with fail
      refine (HI.out _ _ _).mono ?_; rintro e w2 ⟨rfl, rfl⟩; rw [HV.out]; go_wp2; go_ret; exact ⟨rfl, hbF _⟩
end Go.Proofs.YtngkolcpbgibcaaGreatDoor
namespace Go.Proofs.YtngkolcpbgibcaaGreatDoor
open Go.RowKit
set_option maxRecDepth 20000 in
set_option maxHeartbeats 4000000 in
theorem compare_kinds {w : World} {k m s : Int} {t : ByteArray} {b : Bool} {e : Int} {k' m' s' : Int} {t' : ByteArray} {b' : Bool} {e' : Int} {x0 x1 x2 : Int} {x3 : ByteArray} {x4 : Bool} {x5 : Int} {y0 y1 y2 : Int} {y3 : ByteArray} {y4 : Bool} {y5 : Int}
    (KX : ∀ W : World, Calls Tryz.prog 82 #[.agg #[.int .i64 k, .int .i64 m, .int .i64 s, .string t, .bool b, .int .i64 e], .agg #[.int .i64 k', .int .i64 m', .int .i64 s', .string t', .bool b', .int .i64 e']] W fun x w' => x = .returned (.agg #[.int .i64 x0, .int .i64 x1, .int .i64 x2, .string x3, .bool x4, .int .i64 x5]) ∧ Below W.heap.size W w')
    (KY : ∀ W : World, Calls Tryz.prog 82 #[.agg #[.int .i64 k', .int .i64 m', .int .i64 s', .string t', .bool b', .int .i64 e'], .agg #[.int .i64 k, .int .i64 m, .int .i64 s, .string t, .bool b, .int .i64 e]] W fun x w' => x = .returned (.agg #[.int .i64 y0, .int .i64 y1, .int .i64 y2, .string y3, .bool y4, .int .i64 y5]) ∧ Below W.heap.size W w') (hne : ¬ x0 = y0) :
    Calls Tryz.prog 27 #[.agg #[.int .i64 k, .int .i64 m, .int .i64 s, .string t, .bool b, .int .i64 e], .agg #[.int .i64 k', .int .i64 m', .int .i64 s', .string t', .bool b', .int .i64 e']] w fun x w' => x = .returned (.int .i64 (cmp x0 y0)) ∧ Below w.heap.size w w' := by
  have HX := Lib.hid KX; have HY := Lib.hid KY; clear KX KY; have HC := Lib.hid (fun W : World => cmp_int (w := W) x0 y0); generalize cmp x0 y0 = C at *; have HB := Lib.hid ((sb1 w 32 #[.int .i64 k, .int .i64 m, .int .i64 s, .string t, .bool b, .int .i64 e]).push (by simp) 32 #[.int .i64 k', .int .i64 m', .int .i64 s', .string t', .bool b', .int .i64 e']); go_enter Tryz.func27, Tryz.ntmps27
  go_wp2_with fail
  refine wp_region_early (S := (fun vals W => SX w 2 ([.put 1 #[.int .i64 x0, .int .i64 x1, .int .i64 x2, .string x3, .bool x4, .int .i64 x5], .put 0 #[.int .i64 y0, .int .i64 y1, .int .i64 y2, .string y3, .bool y4, .int .i64 y5]] : List Stp) vals ([(w.heap.size + 1, 32, #[.int .i64 k', .int .i64 m', .int .i64 s', .string t', .bool b', .int .i64 e']), (w.heap.size, 32, #[.int .i64 k, .int .i64 m, .int .i64 s, .string t, .bool b, .int .i64 e])] : List (Nat × TypeId × Array Value)) W)) (E := (fun _ _ => True)) [6, 7] [(2, Is (.pointer (some ⟨w.heap.size, 0, none⟩))), (3, Is (.pointer (some ⟨w.heap.size + 1, 0, none⟩)))] [(5, Is (.agg #[.int .i64 k, .int .i64 m, .int .i64 s, .string t, .bool b, .int .i64 e])), (6, Is (.agg #[.int .i64 k', .int .i64 m', .int .i64 s', .string t', .bool b', .int .i64 e'])), (7, Is (.agg #[.int .i64 x0, .int .i64 x1, .int .i64 x2, .string x3, .bool x4, .int .i64 x5])), (8, Is (.agg #[.int .i64 k', .int .i64 m', .int .i64 s', .string t', .bool b', .int .i64 e'])), (9, Is (.agg #[.int .i64 k, .int .i64 m, .int .i64 s, .string t, .bool b, .int .i64 e])), (10, Is (.agg #[.int .i64 y0, .int .i64 y1, .int .i64 y2, .string y3, .bool y4, .int .i64 y5]))]
    [.op [2] none, .op [3] none, .op [5, 6] none, .op [3] none, .op [2] none, .op [8, 9] none, .phase 0 [2, 7] [], .phase 1 [3, 10] []] (by as_aux_lemma => kernel_rfl) ?_ ?_ ?_ ?_ ?_ ⟨stable_is _ _, stable_is _ _, stable_is _ _, stable_is _ _, stable_is _ _, stable_is _ _, stable_is _ _, stable_is _ _, trivial⟩ ?_ (HB.out.drew) ?_ ?_
  · as_aux_lemma => kernel_rfl
  · as_aux_lemma => kernel_rfl
  · as_aux_lemma => kernel_rfl
  · as_aux_lemma => kernel_rfl
  · as_aux_lemma => kernel_rfl
  · exact ⟨rfl, rfl, trivial⟩
  · refine ⟨?_, ?_, ?_, ?_, ?_, ?_, ?_, ?_, trivial⟩
    · as_aux_lemma => intro vals hE a W hS hL; obtain rfl : vals = [] := List.eq_nil_of_length_eq_zero (Nat.le_zero.1 (hE 0 (by kernel_rfl))); have e2 : a.tmps.getD 2 undef = .pointer (some ⟨w.heap.size, 0, none⟩) := hL.1; clear hL; have kb : Bk W (w.heap.size) 32 #[.int .i64 k, .int .i64 m, .int .i64 s, .string t, .bool b, .int .i64 e] := SB.box (i := 1) hS rfl; have f0 := kb.cell 0; have f1 := kb.cell 1; have f2 := kb.cell 2; have f3 := kb.cell 3; have f4 := kb.cell 4; have f5 := kb.cell 5; clear kb; go_simp; exact ⟨dstY (by rfl), hS, trivial⟩
    · as_aux_lemma => intro vals hE a W hS hL; obtain rfl : vals = [] := List.eq_nil_of_length_eq_zero (Nat.le_zero.1 (hE 0 (by kernel_rfl))); have e3 : a.tmps.getD 3 undef = .pointer (some ⟨w.heap.size + 1, 0, none⟩) := hL.1; clear hL; have kb : Bk W (w.heap.size + 1) 32 #[.int .i64 k', .int .i64 m', .int .i64 s', .string t', .bool b', .int .i64 e'] := SB.box (i := 0) hS rfl; have f0 := kb.cell 0; have f1 := kb.cell 1; have f2 := kb.cell 2; have f3 := kb.cell 3; have f4 := kb.cell 4; have f5 := kb.cell 5; clear kb; go_simp; exact ⟨dstY (by rfl), hS, trivial⟩
    · as_aux_lemma => intro vals hE a W hS hL; obtain rfl : vals = [] := List.eq_nil_of_length_eq_zero (Nat.le_zero.1 (hE 0 (by kernel_rfl))); have e5 : a.tmps.getD 5 undef = .agg #[.int .i64 k, .int .i64 m, .int .i64 s, .string t, .bool b, .int .i64 e] := hL.1; have e6 : a.tmps.getD 6 undef = .agg #[.int .i64 k', .int .i64 m', .int .i64 s', .string t', .bool b', .int .i64 e'] := hL.2.1; clear hL; go_simp; refine (HX.out W).mono ?_; rintro e W' ⟨rfl, hb⟩; exact ⟨_, rfl, dstY (by rfl), hS.call hb, trivial⟩
    · as_aux_lemma =>
        intro vals hE a W hS hL; have hE1 := hE 1 (by kernel_rfl); have e3 : a.tmps.getD 3 undef = .pointer (some ⟨w.heap.size + 1, 0, none⟩) := hL.1; clear hL
        have kb : Bk W (w.heap.size + 1) 32 #[.int .i64 k', .int .i64 m', .int .i64 s', .string t', .bool b', .int .i64 e'] := by
          match vals, hE1, hS with
          | [], _, hS => exact SB.box (i := 0) hS rfl
          | [_], _, hS => exact SB.box (i := 0) hS rfl
        have f0 := kb.cell 0; have f1 := kb.cell 1; have f2 := kb.cell 2; have f3 := kb.cell 3; have f4 := kb.cell 4; have f5 := kb.cell 5; clear kb; go_simp; exact ⟨dstY (by rfl), hS, trivial⟩
    · as_aux_lemma => intro vals hE a W hS hL; obtain rfl : vals = [] := List.eq_nil_of_length_eq_zero (Nat.le_zero.1 (hE 0 (by kernel_rfl))); have e2 : a.tmps.getD 2 undef = .pointer (some ⟨w.heap.size, 0, none⟩) := hL.1; clear hL; have kb : Bk W (w.heap.size) 32 #[.int .i64 k, .int .i64 m, .int .i64 s, .string t, .bool b, .int .i64 e] := SB.box (i := 1) hS rfl; have f0 := kb.cell 0; have f1 := kb.cell 1; have f2 := kb.cell 2; have f3 := kb.cell 3; have f4 := kb.cell 4; have f5 := kb.cell 5; clear kb; go_simp; exact ⟨dstY (by rfl), hS, trivial⟩
    · as_aux_lemma => intro vals hE a W hS hL; have hE1 := hE 1 (by kernel_rfl); have e8 : a.tmps.getD 8 undef = .agg #[.int .i64 k', .int .i64 m', .int .i64 s', .string t', .bool b', .int .i64 e'] := hL.1; have e9 : a.tmps.getD 9 undef = .agg #[.int .i64 k, .int .i64 m, .int .i64 s, .string t, .bool b, .int .i64 e] := hL.2.1; clear hL; go_simp; refine (HY.out W).mono ?_; rintro e W' ⟨rfl, hb⟩; exact ⟨_, rfl, dstY (by rfl), hS.call hb, trivial⟩
    · skip
      intro a W vals hv hS hL hp; have e2 : a.tmps.getD 2 undef = .pointer (some ⟨w.heap.size, 0, none⟩) := hL.1; have e7 : a.tmps.getD 7 undef = .agg #[.int .i64 x0, .int .i64 x1, .int .i64 x2, .string x3, .bool x4, .int .i64 x5] := hL.2.1; clear hL
      match vals, hv, hS with
      | [], _, hS =>
        have hS2 : SX w 2 ([.put 1 #[.int .i64 x0, .int .i64 x1, .int .i64 x2, .string x3, .bool x4, .int .i64 x5], .put 0 #[.int .i64 y0, .int .i64 y1, .int .i64 y2, .string y3, .bool y4, .int .i64 y5]] : List Stp) [] ([(w.heap.size + 1, 32, #[.int .i64 k', .int .i64 m', .int .i64 s', .string t', .bool b', .int .i64 e']), (w.heap.size, 32, #[.int .i64 k, .int .i64 m, .int .i64 s, .string t, .bool b, .int .i64 e])] : List (Nat × TypeId × Array Value)) W := hS; clear hS; have hB0 := hS2; have hB : SB w 2 ([(w.heap.size + 1, 32, #[.int .i64 k', .int .i64 m', .int .i64 s', .string t', .bool b', .int .i64 e']), (w.heap.size, 32, #[.int .i64 k, .int .i64 m, .int .i64 s, .string t, .bool b, .int .i64 e])] : List (Nat × TypeId × Array Value)) W := hB0; clear hB0; rw [Array.getD_eq_getD_getElem?] at e7; have kz := hB.box (i := 1) rfl; have z0 := kz.frozen 0; have q0 := kz.cell 0; have z1 := kz.frozen 1; have q1 := kz.cell 1; have z2 := kz.frozen 2; have q2 := kz.cell 2; have z3 := kz.frozen 3; have q3 := kz.cell 3; have z4 := kz.frozen 4; have q4 := kz.cell 4; have z5 := kz.frozen 5; have q5 := kz.cell 5; have hge : w.heap.size ≤ (w.heap.size) := by omega
        have hne : ∀ qx ∈ butBox ([(w.heap.size + 1, 32, #[.int .i64 k', .int .i64 m', .int .i64 s', .string t', .bool b', .int .i64 e']), (w.heap.size, 32, #[.int .i64 k, .int .i64 m, .int .i64 s, .string t, .bool b, .int .i64 e])] : List (Nat × TypeId × Array Value)) 1, qx.1 ≠ (w.heap.size) := by simp [butBox] <;> omega
        have hF := hB.put6 (i := 1) rfl hge hne (.int .i64 x0 : Value) (.int .i64 x1 : Value) (.int .i64 x2 : Value) (.string x3 : Value) (.bool x4 : Value) (.int .i64 x5 : Value); clear kz hB hne hge; go_simp; exact ⟨hF, trivial, trivial⟩
    · skip
      intro a W vals hv hS hL hp; have e3 : a.tmps.getD 3 undef = .pointer (some ⟨w.heap.size + 1, 0, none⟩) := hL.1; have e10 : a.tmps.getD 10 undef = .agg #[.int .i64 y0, .int .i64 y1, .int .i64 y2, .string y3, .bool y4, .int .i64 y5] := hL.2.1; clear hL
      match vals, hv, hS with
      | [v0], _, hS =>
        have hS2 : SX w 2 ([.put 1 #[.int .i64 x0, .int .i64 x1, .int .i64 x2, .string x3, .bool x4, .int .i64 x5], .put 0 #[.int .i64 y0, .int .i64 y1, .int .i64 y2, .string y3, .bool y4, .int .i64 y5]] : List Stp) [v0] ([(w.heap.size + 1, 32, #[.int .i64 k', .int .i64 m', .int .i64 s', .string t', .bool b', .int .i64 e']), (w.heap.size, 32, #[.int .i64 k, .int .i64 m, .int .i64 s, .string t, .bool b, .int .i64 e])] : List (Nat × TypeId × Array Value)) W := hS; clear hS; have hB0 := hS2; have hB : SB w 2 ([(w.heap.size + 1, 32, #[.int .i64 k', .int .i64 m', .int .i64 s', .string t', .bool b', .int .i64 e']), (w.heap.size, 32, #[.int .i64 x0, .int .i64 x1, .int .i64 x2, .string x3, .bool x4, .int .i64 x5])] : List (Nat × TypeId × Array Value)) W := hB0; clear hB0; rw [Array.getD_eq_getD_getElem?] at e10; have kz := hB.box (i := 0) rfl; have z0 := kz.frozen 0; have q0 := kz.cell 0; have z1 := kz.frozen 1; have q1 := kz.cell 1; have z2 := kz.frozen 2; have q2 := kz.cell 2; have z3 := kz.frozen 3; have q3 := kz.cell 3; have z4 := kz.frozen 4; have q4 := kz.cell 4; have z5 := kz.frozen 5; have q5 := kz.cell 5; have hge : w.heap.size ≤ (w.heap.size + 1) := by omega
        have hne : ∀ qx ∈ butBox ([(w.heap.size + 1, 32, #[.int .i64 k', .int .i64 m', .int .i64 s', .string t', .bool b', .int .i64 e']), (w.heap.size, 32, #[.int .i64 x0, .int .i64 x1, .int .i64 x2, .string x3, .bool x4, .int .i64 x5])] : List (Nat × TypeId × Array Value)) 0, qx.1 ≠ (w.heap.size + 1) := by simp [butBox] <;> omega
        have hF := hB.put6 (i := 0) rfl hge hne (.int .i64 y0 : Value) (.int .i64 y1 : Value) (.int .i64 y2 : Value) (.string y3 : Value) (.bool y4 : Value) (.int .i64 y5 : Value); clear kz hB hne hge; go_simp; exact ⟨hF, trivial, trivial⟩
  · intro a W' vals hd hsz hT hF hv hP hS
    obtain ⟨v0, v1, rfl⟩ : ∃ v0 v1, vals = [v0, v1] := by
      match vals, hv with
      | [v0, v1], _ => exact ⟨v0, v1, rfl⟩
    have hS2 : SX w 2 ([.put 1 #[.int .i64 x0, .int .i64 x1, .int .i64 x2, .string x3, .bool x4, .int .i64 x5], .put 0 #[.int .i64 y0, .int .i64 y1, .int .i64 y2, .string y3, .bool y4, .int .i64 y5]] : List Stp) [v0, v1] ([(w.heap.size + 1, 32, #[.int .i64 k', .int .i64 m', .int .i64 s', .string t', .bool b', .int .i64 e']), (w.heap.size, 32, #[.int .i64 k, .int .i64 m, .int .i64 s, .string t, .bool b, .int .i64 e])] : List (Nat × TypeId × Array Value)) W' := hS; clear hS; have hB0 := hS2; have hB : SB w 2 ([(w.heap.size + 1, 32, #[.int .i64 y0, .int .i64 y1, .int .i64 y2, .string y3, .bool y4, .int .i64 y5]), (w.heap.size, 32, #[.int .i64 x0, .int .i64 x1, .int .i64 x2, .string x3, .bool x4, .int .i64 x5])] : List (Nat × TypeId × Array Value)) W' := hB0; clear hB0; have e2 : a.tmps.getD 2 undef = .pointer (some ⟨w.heap.size, 0, none⟩) := hT 2 (by simp); have e3 : a.tmps.getD 3 undef = .pointer (some ⟨w.heap.size + 1, 0, none⟩) := hT 3 (by simp); clear hT hF hP; rw [act_lit 53 a hd hsz]; simp only [List.range, List.range.loop, List.map, e2, e3]; clear hd hsz e2 e3; have ky := hB.box (i := 0) rfl; have cy0 := ky.cell 0; have cy1 := ky.cell 1; have cy2 := ky.cell 2; have cy3 := ky.cell 3; have cy4 := ky.cell 4; have cy5 := ky.cell 5; clear ky; have kx := hB.box (i := 1) rfl; have cx0 := kx.cell 0; have cx1 := kx.cell 1; have cx2 := kx.cell 2; have cx3 := kx.cell 3; have cx4 := kx.cell 4; have cx5 := kx.cell 5; clear kx
    go_wp2_with fail
    refine (HC.out _).mono ?_; rintro x w9 ⟨rfl, rfl⟩; have hbel := hB.bel; clear hB HB HX HY HC; go_wp2; go_ret; exact ⟨rfl, hbel⟩
set_option maxRecDepth 20000 in
set_option maxHeartbeats 4000000 in
theorem compare_num {w : World} {k m s : Int} {t : ByteArray} {b : Bool} {e : Int} {k' m' s' : Int} {t' : ByteArray} {b' : Bool} {e' : Int} {x1 x2 : Int} {x3 : ByteArray} {x4 : Bool} {x5 : Int} {y1 y2 : Int} {y3 : ByteArray} {y4 : Bool} {y5 : Int} {C : Int}
    (KX : ∀ W : World, Calls Tryz.prog 82 #[.agg #[.int .i64 k, .int .i64 m, .int .i64 s, .string t, .bool b, .int .i64 e], .agg #[.int .i64 k', .int .i64 m', .int .i64 s', .string t', .bool b', .int .i64 e']] W fun x w' => x = .returned (.agg #[.int .i64 1, .int .i64 x1, .int .i64 x2, .string x3, .bool x4, .int .i64 x5]) ∧ Below W.heap.size W w')
    (KY : ∀ W : World, Calls Tryz.prog 82 #[.agg #[.int .i64 k', .int .i64 m', .int .i64 s', .string t', .bool b', .int .i64 e'], .agg #[.int .i64 k, .int .i64 m, .int .i64 s, .string t, .bool b, .int .i64 e]] W fun x w' => x = .returned (.agg #[.int .i64 1, .int .i64 y1, .int .i64 y2, .string y3, .bool y4, .int .i64 y5]) ∧ Below W.heap.size W w') (KC : ∀ W : World, Calls Tryz.prog 33 #[.agg #[.int .i64 x1, .int .i64 x2], .agg #[.int .i64 y1, .int .i64 y2]] W fun x w' => x = .returned (.int .i64 C) ∧ Below W.heap.size W w') :
    Calls Tryz.prog 27 #[.agg #[.int .i64 k, .int .i64 m, .int .i64 s, .string t, .bool b, .int .i64 e], .agg #[.int .i64 k', .int .i64 m', .int .i64 s', .string t', .bool b', .int .i64 e']] w fun x w' => x = .returned (.int .i64 C) ∧ Below w.heap.size w w' := by
  have HX := Lib.hid KX; have HY := Lib.hid KY; clear KX KY; have HC := Lib.hid KC; clear KC; have HB := Lib.hid ((sb1 w 32 #[.int .i64 k, .int .i64 m, .int .i64 s, .string t, .bool b, .int .i64 e]).push (by simp) 32 #[.int .i64 k', .int .i64 m', .int .i64 s', .string t', .bool b', .int .i64 e']); go_enter Tryz.func27, Tryz.ntmps27
  go_wp2_with fail
  refine wp_region_early (S := (fun vals W => SX w 2 ([.put 1 #[.int .i64 1, .int .i64 x1, .int .i64 x2, .string x3, .bool x4, .int .i64 x5], .put 0 #[.int .i64 1, .int .i64 y1, .int .i64 y2, .string y3, .bool y4, .int .i64 y5]] : List Stp) vals ([(w.heap.size + 1, 32, #[.int .i64 k', .int .i64 m', .int .i64 s', .string t', .bool b', .int .i64 e']), (w.heap.size, 32, #[.int .i64 k, .int .i64 m, .int .i64 s, .string t, .bool b, .int .i64 e])] : List (Nat × TypeId × Array Value)) W)) (E := (fun _ _ => True)) [6, 7] [(2, Is (.pointer (some ⟨w.heap.size, 0, none⟩))), (3, Is (.pointer (some ⟨w.heap.size + 1, 0, none⟩)))] [(5, Is (.agg #[.int .i64 k, .int .i64 m, .int .i64 s, .string t, .bool b, .int .i64 e])), (6, Is (.agg #[.int .i64 k', .int .i64 m', .int .i64 s', .string t', .bool b', .int .i64 e'])), (7, Is (.agg #[.int .i64 1, .int .i64 x1, .int .i64 x2, .string x3, .bool x4, .int .i64 x5])), (8, Is (.agg #[.int .i64 k', .int .i64 m', .int .i64 s', .string t', .bool b', .int .i64 e'])), (9, Is (.agg #[.int .i64 k, .int .i64 m, .int .i64 s, .string t, .bool b, .int .i64 e])), (10, Is (.agg #[.int .i64 1, .int .i64 y1, .int .i64 y2, .string y3, .bool y4, .int .i64 y5]))]
    [.op [2] none, .op [3] none, .op [5, 6] none, .op [3] none, .op [2] none, .op [8, 9] none, .phase 0 [2, 7] [], .phase 1 [3, 10] []] (by as_aux_lemma => kernel_rfl) ?_ ?_ ?_ ?_ ?_ ⟨stable_is _ _, stable_is _ _, stable_is _ _, stable_is _ _, stable_is _ _, stable_is _ _, stable_is _ _, stable_is _ _, trivial⟩ ?_ (HB.out.drew) ?_ ?_
  · as_aux_lemma => kernel_rfl
  · as_aux_lemma => kernel_rfl
  · as_aux_lemma => kernel_rfl
  · as_aux_lemma => kernel_rfl
  · as_aux_lemma => kernel_rfl
  · exact ⟨rfl, rfl, trivial⟩
  · refine ⟨?_, ?_, ?_, ?_, ?_, ?_, ?_, ?_, trivial⟩
    · as_aux_lemma => intro vals hE a W hS hL; obtain rfl : vals = [] := List.eq_nil_of_length_eq_zero (Nat.le_zero.1 (hE 0 (by kernel_rfl))); have e2 : a.tmps.getD 2 undef = .pointer (some ⟨w.heap.size, 0, none⟩) := hL.1; clear hL; have kb : Bk W (w.heap.size) 32 #[.int .i64 k, .int .i64 m, .int .i64 s, .string t, .bool b, .int .i64 e] := SB.box (i := 1) hS rfl; have f0 := kb.cell 0; have f1 := kb.cell 1; have f2 := kb.cell 2; have f3 := kb.cell 3; have f4 := kb.cell 4; have f5 := kb.cell 5; clear kb; go_simp; exact ⟨dstY (by rfl), hS, trivial⟩
    · as_aux_lemma => intro vals hE a W hS hL; obtain rfl : vals = [] := List.eq_nil_of_length_eq_zero (Nat.le_zero.1 (hE 0 (by kernel_rfl))); have e3 : a.tmps.getD 3 undef = .pointer (some ⟨w.heap.size + 1, 0, none⟩) := hL.1; clear hL; have kb : Bk W (w.heap.size + 1) 32 #[.int .i64 k', .int .i64 m', .int .i64 s', .string t', .bool b', .int .i64 e'] := SB.box (i := 0) hS rfl; have f0 := kb.cell 0; have f1 := kb.cell 1; have f2 := kb.cell 2; have f3 := kb.cell 3; have f4 := kb.cell 4; have f5 := kb.cell 5; clear kb; go_simp; exact ⟨dstY (by rfl), hS, trivial⟩
    · as_aux_lemma => intro vals hE a W hS hL; obtain rfl : vals = [] := List.eq_nil_of_length_eq_zero (Nat.le_zero.1 (hE 0 (by kernel_rfl))); have e5 : a.tmps.getD 5 undef = .agg #[.int .i64 k, .int .i64 m, .int .i64 s, .string t, .bool b, .int .i64 e] := hL.1; have e6 : a.tmps.getD 6 undef = .agg #[.int .i64 k', .int .i64 m', .int .i64 s', .string t', .bool b', .int .i64 e'] := hL.2.1; clear hL; go_simp; refine (HX.out W).mono ?_; rintro e W' ⟨rfl, hb⟩; exact ⟨_, rfl, dstY (by rfl), hS.call hb, trivial⟩
    · as_aux_lemma =>
        intro vals hE a W hS hL; have hE1 := hE 1 (by kernel_rfl); have e3 : a.tmps.getD 3 undef = .pointer (some ⟨w.heap.size + 1, 0, none⟩) := hL.1; clear hL
        have kb : Bk W (w.heap.size + 1) 32 #[.int .i64 k', .int .i64 m', .int .i64 s', .string t', .bool b', .int .i64 e'] := by
          match vals, hE1, hS with
          | [], _, hS => exact SB.box (i := 0) hS rfl
          | [_], _, hS => exact SB.box (i := 0) hS rfl
        have f0 := kb.cell 0; have f1 := kb.cell 1; have f2 := kb.cell 2; have f3 := kb.cell 3; have f4 := kb.cell 4; have f5 := kb.cell 5; clear kb; go_simp; exact ⟨dstY (by rfl), hS, trivial⟩
    · as_aux_lemma => intro vals hE a W hS hL; obtain rfl : vals = [] := List.eq_nil_of_length_eq_zero (Nat.le_zero.1 (hE 0 (by kernel_rfl))); have e2 : a.tmps.getD 2 undef = .pointer (some ⟨w.heap.size, 0, none⟩) := hL.1; clear hL; have kb : Bk W (w.heap.size) 32 #[.int .i64 k, .int .i64 m, .int .i64 s, .string t, .bool b, .int .i64 e] := SB.box (i := 1) hS rfl; have f0 := kb.cell 0; have f1 := kb.cell 1; have f2 := kb.cell 2; have f3 := kb.cell 3; have f4 := kb.cell 4; have f5 := kb.cell 5; clear kb; go_simp; exact ⟨dstY (by rfl), hS, trivial⟩
    · as_aux_lemma => intro vals hE a W hS hL; have hE1 := hE 1 (by kernel_rfl); have e8 : a.tmps.getD 8 undef = .agg #[.int .i64 k', .int .i64 m', .int .i64 s', .string t', .bool b', .int .i64 e'] := hL.1; have e9 : a.tmps.getD 9 undef = .agg #[.int .i64 k, .int .i64 m, .int .i64 s, .string t, .bool b, .int .i64 e] := hL.2.1; clear hL; go_simp; refine (HY.out W).mono ?_; rintro e W' ⟨rfl, hb⟩; exact ⟨_, rfl, dstY (by rfl), hS.call hb, trivial⟩
    · skip
      intro a W vals hv hS hL hp; have e2 : a.tmps.getD 2 undef = .pointer (some ⟨w.heap.size, 0, none⟩) := hL.1; have e7 : a.tmps.getD 7 undef = .agg #[.int .i64 1, .int .i64 x1, .int .i64 x2, .string x3, .bool x4, .int .i64 x5] := hL.2.1; clear hL
      match vals, hv, hS with
      | [], _, hS =>
        have hS2 : SX w 2 ([.put 1 #[.int .i64 1, .int .i64 x1, .int .i64 x2, .string x3, .bool x4, .int .i64 x5], .put 0 #[.int .i64 1, .int .i64 y1, .int .i64 y2, .string y3, .bool y4, .int .i64 y5]] : List Stp) [] ([(w.heap.size + 1, 32, #[.int .i64 k', .int .i64 m', .int .i64 s', .string t', .bool b', .int .i64 e']), (w.heap.size, 32, #[.int .i64 k, .int .i64 m, .int .i64 s, .string t, .bool b, .int .i64 e])] : List (Nat × TypeId × Array Value)) W := hS; clear hS; have hB0 := hS2; have hB : SB w 2 ([(w.heap.size + 1, 32, #[.int .i64 k', .int .i64 m', .int .i64 s', .string t', .bool b', .int .i64 e']), (w.heap.size, 32, #[.int .i64 k, .int .i64 m, .int .i64 s, .string t, .bool b, .int .i64 e])] : List (Nat × TypeId × Array Value)) W := hB0; clear hB0; rw [Array.getD_eq_getD_getElem?] at e7; have kz := hB.box (i := 1) rfl; have z0 := kz.frozen 0; have q0 := kz.cell 0; have z1 := kz.frozen 1; have q1 := kz.cell 1; have z2 := kz.frozen 2; have q2 := kz.cell 2; have z3 := kz.frozen 3; have q3 := kz.cell 3; have z4 := kz.frozen 4; have q4 := kz.cell 4; have z5 := kz.frozen 5; have q5 := kz.cell 5; have hge : w.heap.size ≤ (w.heap.size) := by omega
        have hne : ∀ qx ∈ butBox ([(w.heap.size + 1, 32, #[.int .i64 k', .int .i64 m', .int .i64 s', .string t', .bool b', .int .i64 e']), (w.heap.size, 32, #[.int .i64 k, .int .i64 m, .int .i64 s, .string t, .bool b, .int .i64 e])] : List (Nat × TypeId × Array Value)) 1, qx.1 ≠ (w.heap.size) := by simp [butBox] <;> omega
        have hF := hB.put6 (i := 1) rfl hge hne (.int .i64 1 : Value) (.int .i64 x1 : Value) (.int .i64 x2 : Value) (.string x3 : Value) (.bool x4 : Value) (.int .i64 x5 : Value); clear kz hB hne hge; go_simp; exact ⟨hF, trivial, trivial⟩
    · skip
      intro a W vals hv hS hL hp; have e3 : a.tmps.getD 3 undef = .pointer (some ⟨w.heap.size + 1, 0, none⟩) := hL.1; have e10 : a.tmps.getD 10 undef = .agg #[.int .i64 1, .int .i64 y1, .int .i64 y2, .string y3, .bool y4, .int .i64 y5] := hL.2.1; clear hL
      match vals, hv, hS with
      | [v0], _, hS =>
        have hS2 : SX w 2 ([.put 1 #[.int .i64 1, .int .i64 x1, .int .i64 x2, .string x3, .bool x4, .int .i64 x5], .put 0 #[.int .i64 1, .int .i64 y1, .int .i64 y2, .string y3, .bool y4, .int .i64 y5]] : List Stp) [v0] ([(w.heap.size + 1, 32, #[.int .i64 k', .int .i64 m', .int .i64 s', .string t', .bool b', .int .i64 e']), (w.heap.size, 32, #[.int .i64 k, .int .i64 m, .int .i64 s, .string t, .bool b, .int .i64 e])] : List (Nat × TypeId × Array Value)) W := hS; clear hS; have hB0 := hS2; have hB : SB w 2 ([(w.heap.size + 1, 32, #[.int .i64 k', .int .i64 m', .int .i64 s', .string t', .bool b', .int .i64 e']), (w.heap.size, 32, #[.int .i64 1, .int .i64 x1, .int .i64 x2, .string x3, .bool x4, .int .i64 x5])] : List (Nat × TypeId × Array Value)) W := hB0; clear hB0; rw [Array.getD_eq_getD_getElem?] at e10; have kz := hB.box (i := 0) rfl; have z0 := kz.frozen 0; have q0 := kz.cell 0; have z1 := kz.frozen 1; have q1 := kz.cell 1; have z2 := kz.frozen 2; have q2 := kz.cell 2; have z3 := kz.frozen 3; have q3 := kz.cell 3; have z4 := kz.frozen 4; have q4 := kz.cell 4; have z5 := kz.frozen 5; have q5 := kz.cell 5; have hge : w.heap.size ≤ (w.heap.size + 1) := by omega
        have hne : ∀ qx ∈ butBox ([(w.heap.size + 1, 32, #[.int .i64 k', .int .i64 m', .int .i64 s', .string t', .bool b', .int .i64 e']), (w.heap.size, 32, #[.int .i64 1, .int .i64 x1, .int .i64 x2, .string x3, .bool x4, .int .i64 x5])] : List (Nat × TypeId × Array Value)) 0, qx.1 ≠ (w.heap.size + 1) := by simp [butBox] <;> omega
        have hF := hB.put6 (i := 0) rfl hge hne (.int .i64 1 : Value) (.int .i64 y1 : Value) (.int .i64 y2 : Value) (.string y3 : Value) (.bool y4 : Value) (.int .i64 y5 : Value); clear kz hB hne hge; go_simp; exact ⟨hF, trivial, trivial⟩
  · intro a W' vals hd hsz hT hF hv hP hS
    obtain ⟨v0, v1, rfl⟩ : ∃ v0 v1, vals = [v0, v1] := by
      match vals, hv with
      | [v0, v1], _ => exact ⟨v0, v1, rfl⟩
    have hS2 : SX w 2 ([.put 1 #[.int .i64 1, .int .i64 x1, .int .i64 x2, .string x3, .bool x4, .int .i64 x5], .put 0 #[.int .i64 1, .int .i64 y1, .int .i64 y2, .string y3, .bool y4, .int .i64 y5]] : List Stp) [v0, v1] ([(w.heap.size + 1, 32, #[.int .i64 k', .int .i64 m', .int .i64 s', .string t', .bool b', .int .i64 e']), (w.heap.size, 32, #[.int .i64 k, .int .i64 m, .int .i64 s, .string t, .bool b, .int .i64 e])] : List (Nat × TypeId × Array Value)) W' := hS; clear hS; have hB0 := hS2; have hB : SB w 2 ([(w.heap.size + 1, 32, #[.int .i64 1, .int .i64 y1, .int .i64 y2, .string y3, .bool y4, .int .i64 y5]), (w.heap.size, 32, #[.int .i64 1, .int .i64 x1, .int .i64 x2, .string x3, .bool x4, .int .i64 x5])] : List (Nat × TypeId × Array Value)) W' := hB0; clear hB0; have e2 : a.tmps.getD 2 undef = .pointer (some ⟨w.heap.size, 0, none⟩) := hT 2 (by simp); have e3 : a.tmps.getD 3 undef = .pointer (some ⟨w.heap.size + 1, 0, none⟩) := hT 3 (by simp); clear hT hF hP; rw [act_lit 53 a hd hsz]; simp only [List.range, List.range.loop, List.map, e2, e3]; clear hd hsz e2 e3; have ky := hB.box (i := 0) rfl; have cy0 := ky.cell 0; have cy1 := ky.cell 1; have cy2 := ky.cell 2; have cy3 := ky.cell 3; have cy4 := ky.cell 4; have cy5 := ky.cell 5; clear ky; have kx := hB.box (i := 1) rfl; have cx0 := kx.cell 0; have cx1 := kx.cell 1; have cx2 := kx.cell 2; have cx3 := kx.cell 3; have cx4 := kx.cell 4; have cx5 := kx.cell 5; clear kx
    go_wp2_with fail
    refine (HC.out _).mono ?_; rintro x w9 ⟨rfl, hb⟩; have hbel := (hB.call hb).bel; clear hb hB HB HX HY HC; go_wp2; go_ret; exact ⟨rfl, hbel⟩
set_option maxRecDepth 20000 in
set_option maxHeartbeats 4000000 in
theorem compare_str {w : World} {k m s : Int} {t : ByteArray} {b : Bool} {e : Int} {k' m' s' : Int} {t' : ByteArray} {b' : Bool} {e' : Int} {x1 x2 : Int} {x3 : ByteArray} {x4 : Bool} {x5 : Int} {y1 y2 : Int} {y3 : ByteArray} {y4 : Bool} {y5 : Int} {C : Int}
    (KX : ∀ W : World, Calls Tryz.prog 82 #[.agg #[.int .i64 k, .int .i64 m, .int .i64 s, .string t, .bool b, .int .i64 e], .agg #[.int .i64 k', .int .i64 m', .int .i64 s', .string t', .bool b', .int .i64 e']] W fun x w' => x = .returned (.agg #[.int .i64 2, .int .i64 x1, .int .i64 x2, .string x3, .bool x4, .int .i64 x5]) ∧ Below W.heap.size W w')
    (KY : ∀ W : World, Calls Tryz.prog 82 #[.agg #[.int .i64 k', .int .i64 m', .int .i64 s', .string t', .bool b', .int .i64 e'], .agg #[.int .i64 k, .int .i64 m, .int .i64 s, .string t, .bool b, .int .i64 e]] W fun x w' => x = .returned (.agg #[.int .i64 2, .int .i64 y1, .int .i64 y2, .string y3, .bool y4, .int .i64 y5]) ∧ Below W.heap.size W w') (KC : ∀ W : World, Calls Tryz.prog 84 #[.string x3, .string y3] W fun x w' => x = .returned (.int .i64 C) ∧ Below W.heap.size W w') :
    Calls Tryz.prog 27 #[.agg #[.int .i64 k, .int .i64 m, .int .i64 s, .string t, .bool b, .int .i64 e], .agg #[.int .i64 k', .int .i64 m', .int .i64 s', .string t', .bool b', .int .i64 e']] w fun x w' => x = .returned (.int .i64 C) ∧ Below w.heap.size w w' := by
  have HX := Lib.hid KX; have HY := Lib.hid KY; clear KX KY; have HC := Lib.hid KC; clear KC; have HB := Lib.hid ((sb1 w 32 #[.int .i64 k, .int .i64 m, .int .i64 s, .string t, .bool b, .int .i64 e]).push (by simp) 32 #[.int .i64 k', .int .i64 m', .int .i64 s', .string t', .bool b', .int .i64 e']); go_enter Tryz.func27, Tryz.ntmps27
  go_wp2_with fail
  refine wp_region_early (S := (fun vals W => SX w 2 ([.put 1 #[.int .i64 2, .int .i64 x1, .int .i64 x2, .string x3, .bool x4, .int .i64 x5], .put 0 #[.int .i64 2, .int .i64 y1, .int .i64 y2, .string y3, .bool y4, .int .i64 y5]] : List Stp) vals ([(w.heap.size + 1, 32, #[.int .i64 k', .int .i64 m', .int .i64 s', .string t', .bool b', .int .i64 e']), (w.heap.size, 32, #[.int .i64 k, .int .i64 m, .int .i64 s, .string t, .bool b, .int .i64 e])] : List (Nat × TypeId × Array Value)) W)) (E := (fun _ _ => True)) [6, 7] [(2, Is (.pointer (some ⟨w.heap.size, 0, none⟩))), (3, Is (.pointer (some ⟨w.heap.size + 1, 0, none⟩)))] [(5, Is (.agg #[.int .i64 k, .int .i64 m, .int .i64 s, .string t, .bool b, .int .i64 e])), (6, Is (.agg #[.int .i64 k', .int .i64 m', .int .i64 s', .string t', .bool b', .int .i64 e'])), (7, Is (.agg #[.int .i64 2, .int .i64 x1, .int .i64 x2, .string x3, .bool x4, .int .i64 x5])), (8, Is (.agg #[.int .i64 k', .int .i64 m', .int .i64 s', .string t', .bool b', .int .i64 e'])), (9, Is (.agg #[.int .i64 k, .int .i64 m, .int .i64 s, .string t, .bool b, .int .i64 e])), (10, Is (.agg #[.int .i64 2, .int .i64 y1, .int .i64 y2, .string y3, .bool y4, .int .i64 y5]))]
    [.op [2] none, .op [3] none, .op [5, 6] none, .op [3] none, .op [2] none, .op [8, 9] none, .phase 0 [2, 7] [], .phase 1 [3, 10] []] (by as_aux_lemma => kernel_rfl) ?_ ?_ ?_ ?_ ?_ ⟨stable_is _ _, stable_is _ _, stable_is _ _, stable_is _ _, stable_is _ _, stable_is _ _, stable_is _ _, stable_is _ _, trivial⟩ ?_ (HB.out.drew) ?_ ?_
  · as_aux_lemma => kernel_rfl
  · as_aux_lemma => kernel_rfl
  · as_aux_lemma => kernel_rfl
  · as_aux_lemma => kernel_rfl
  · as_aux_lemma => kernel_rfl
  · exact ⟨rfl, rfl, trivial⟩
  · refine ⟨?_, ?_, ?_, ?_, ?_, ?_, ?_, ?_, trivial⟩
    · as_aux_lemma => intro vals hE a W hS hL; obtain rfl : vals = [] := List.eq_nil_of_length_eq_zero (Nat.le_zero.1 (hE 0 (by kernel_rfl))); have e2 : a.tmps.getD 2 undef = .pointer (some ⟨w.heap.size, 0, none⟩) := hL.1; clear hL; have kb : Bk W (w.heap.size) 32 #[.int .i64 k, .int .i64 m, .int .i64 s, .string t, .bool b, .int .i64 e] := SB.box (i := 1) hS rfl; have f0 := kb.cell 0; have f1 := kb.cell 1; have f2 := kb.cell 2; have f3 := kb.cell 3; have f4 := kb.cell 4; have f5 := kb.cell 5; clear kb; go_simp; exact ⟨dstY (by rfl), hS, trivial⟩
    · as_aux_lemma => intro vals hE a W hS hL; obtain rfl : vals = [] := List.eq_nil_of_length_eq_zero (Nat.le_zero.1 (hE 0 (by kernel_rfl))); have e3 : a.tmps.getD 3 undef = .pointer (some ⟨w.heap.size + 1, 0, none⟩) := hL.1; clear hL; have kb : Bk W (w.heap.size + 1) 32 #[.int .i64 k', .int .i64 m', .int .i64 s', .string t', .bool b', .int .i64 e'] := SB.box (i := 0) hS rfl; have f0 := kb.cell 0; have f1 := kb.cell 1; have f2 := kb.cell 2; have f3 := kb.cell 3; have f4 := kb.cell 4; have f5 := kb.cell 5; clear kb; go_simp; exact ⟨dstY (by rfl), hS, trivial⟩
    · as_aux_lemma => intro vals hE a W hS hL; obtain rfl : vals = [] := List.eq_nil_of_length_eq_zero (Nat.le_zero.1 (hE 0 (by kernel_rfl))); have e5 : a.tmps.getD 5 undef = .agg #[.int .i64 k, .int .i64 m, .int .i64 s, .string t, .bool b, .int .i64 e] := hL.1; have e6 : a.tmps.getD 6 undef = .agg #[.int .i64 k', .int .i64 m', .int .i64 s', .string t', .bool b', .int .i64 e'] := hL.2.1; clear hL; go_simp; refine (HX.out W).mono ?_; rintro e W' ⟨rfl, hb⟩; exact ⟨_, rfl, dstY (by rfl), hS.call hb, trivial⟩
    · as_aux_lemma =>
        intro vals hE a W hS hL; have hE1 := hE 1 (by kernel_rfl); have e3 : a.tmps.getD 3 undef = .pointer (some ⟨w.heap.size + 1, 0, none⟩) := hL.1; clear hL
        have kb : Bk W (w.heap.size + 1) 32 #[.int .i64 k', .int .i64 m', .int .i64 s', .string t', .bool b', .int .i64 e'] := by
          match vals, hE1, hS with
          | [], _, hS => exact SB.box (i := 0) hS rfl
          | [_], _, hS => exact SB.box (i := 0) hS rfl
        have f0 := kb.cell 0; have f1 := kb.cell 1; have f2 := kb.cell 2; have f3 := kb.cell 3; have f4 := kb.cell 4; have f5 := kb.cell 5; clear kb; go_simp; exact ⟨dstY (by rfl), hS, trivial⟩
    · as_aux_lemma => intro vals hE a W hS hL; obtain rfl : vals = [] := List.eq_nil_of_length_eq_zero (Nat.le_zero.1 (hE 0 (by kernel_rfl))); have e2 : a.tmps.getD 2 undef = .pointer (some ⟨w.heap.size, 0, none⟩) := hL.1; clear hL; have kb : Bk W (w.heap.size) 32 #[.int .i64 k, .int .i64 m, .int .i64 s, .string t, .bool b, .int .i64 e] := SB.box (i := 1) hS rfl; have f0 := kb.cell 0; have f1 := kb.cell 1; have f2 := kb.cell 2; have f3 := kb.cell 3; have f4 := kb.cell 4; have f5 := kb.cell 5; clear kb; go_simp; exact ⟨dstY (by rfl), hS, trivial⟩
    · as_aux_lemma => intro vals hE a W hS hL; have hE1 := hE 1 (by kernel_rfl); have e8 : a.tmps.getD 8 undef = .agg #[.int .i64 k', .int .i64 m', .int .i64 s', .string t', .bool b', .int .i64 e'] := hL.1; have e9 : a.tmps.getD 9 undef = .agg #[.int .i64 k, .int .i64 m, .int .i64 s, .string t, .bool b, .int .i64 e] := hL.2.1; clear hL; go_simp; refine (HY.out W).mono ?_; rintro e W' ⟨rfl, hb⟩; exact ⟨_, rfl, dstY (by rfl), hS.call hb, trivial⟩
    · skip
      intro a W vals hv hS hL hp; have e2 : a.tmps.getD 2 undef = .pointer (some ⟨w.heap.size, 0, none⟩) := hL.1; have e7 : a.tmps.getD 7 undef = .agg #[.int .i64 2, .int .i64 x1, .int .i64 x2, .string x3, .bool x4, .int .i64 x5] := hL.2.1; clear hL
      match vals, hv, hS with
      | [], _, hS =>
        have hS2 : SX w 2 ([.put 1 #[.int .i64 2, .int .i64 x1, .int .i64 x2, .string x3, .bool x4, .int .i64 x5], .put 0 #[.int .i64 2, .int .i64 y1, .int .i64 y2, .string y3, .bool y4, .int .i64 y5]] : List Stp) [] ([(w.heap.size + 1, 32, #[.int .i64 k', .int .i64 m', .int .i64 s', .string t', .bool b', .int .i64 e']), (w.heap.size, 32, #[.int .i64 k, .int .i64 m, .int .i64 s, .string t, .bool b, .int .i64 e])] : List (Nat × TypeId × Array Value)) W := hS; clear hS; have hB0 := hS2; have hB : SB w 2 ([(w.heap.size + 1, 32, #[.int .i64 k', .int .i64 m', .int .i64 s', .string t', .bool b', .int .i64 e']), (w.heap.size, 32, #[.int .i64 k, .int .i64 m, .int .i64 s, .string t, .bool b, .int .i64 e])] : List (Nat × TypeId × Array Value)) W := hB0; clear hB0; rw [Array.getD_eq_getD_getElem?] at e7; have kz := hB.box (i := 1) rfl; have z0 := kz.frozen 0; have q0 := kz.cell 0; have z1 := kz.frozen 1; have q1 := kz.cell 1; have z2 := kz.frozen 2; have q2 := kz.cell 2; have z3 := kz.frozen 3; have q3 := kz.cell 3; have z4 := kz.frozen 4; have q4 := kz.cell 4; have z5 := kz.frozen 5; have q5 := kz.cell 5; have hge : w.heap.size ≤ (w.heap.size) := by omega
        have hne : ∀ qx ∈ butBox ([(w.heap.size + 1, 32, #[.int .i64 k', .int .i64 m', .int .i64 s', .string t', .bool b', .int .i64 e']), (w.heap.size, 32, #[.int .i64 k, .int .i64 m, .int .i64 s, .string t, .bool b, .int .i64 e])] : List (Nat × TypeId × Array Value)) 1, qx.1 ≠ (w.heap.size) := by simp [butBox] <;> omega
        have hF := hB.put6 (i := 1) rfl hge hne (.int .i64 2 : Value) (.int .i64 x1 : Value) (.int .i64 x2 : Value) (.string x3 : Value) (.bool x4 : Value) (.int .i64 x5 : Value); clear kz hB hne hge; go_simp; exact ⟨hF, trivial, trivial⟩
    · skip
      intro a W vals hv hS hL hp; have e3 : a.tmps.getD 3 undef = .pointer (some ⟨w.heap.size + 1, 0, none⟩) := hL.1; have e10 : a.tmps.getD 10 undef = .agg #[.int .i64 2, .int .i64 y1, .int .i64 y2, .string y3, .bool y4, .int .i64 y5] := hL.2.1; clear hL
      match vals, hv, hS with
      | [v0], _, hS =>
        have hS2 : SX w 2 ([.put 1 #[.int .i64 2, .int .i64 x1, .int .i64 x2, .string x3, .bool x4, .int .i64 x5], .put 0 #[.int .i64 2, .int .i64 y1, .int .i64 y2, .string y3, .bool y4, .int .i64 y5]] : List Stp) [v0] ([(w.heap.size + 1, 32, #[.int .i64 k', .int .i64 m', .int .i64 s', .string t', .bool b', .int .i64 e']), (w.heap.size, 32, #[.int .i64 k, .int .i64 m, .int .i64 s, .string t, .bool b, .int .i64 e])] : List (Nat × TypeId × Array Value)) W := hS; clear hS; have hB0 := hS2; have hB : SB w 2 ([(w.heap.size + 1, 32, #[.int .i64 k', .int .i64 m', .int .i64 s', .string t', .bool b', .int .i64 e']), (w.heap.size, 32, #[.int .i64 2, .int .i64 x1, .int .i64 x2, .string x3, .bool x4, .int .i64 x5])] : List (Nat × TypeId × Array Value)) W := hB0; clear hB0; rw [Array.getD_eq_getD_getElem?] at e10; have kz := hB.box (i := 0) rfl; have z0 := kz.frozen 0; have q0 := kz.cell 0; have z1 := kz.frozen 1; have q1 := kz.cell 1; have z2 := kz.frozen 2; have q2 := kz.cell 2; have z3 := kz.frozen 3; have q3 := kz.cell 3; have z4 := kz.frozen 4; have q4 := kz.cell 4; have z5 := kz.frozen 5; have q5 := kz.cell 5; have hge : w.heap.size ≤ (w.heap.size + 1) := by omega
        have hne : ∀ qx ∈ butBox ([(w.heap.size + 1, 32, #[.int .i64 k', .int .i64 m', .int .i64 s', .string t', .bool b', .int .i64 e']), (w.heap.size, 32, #[.int .i64 2, .int .i64 x1, .int .i64 x2, .string x3, .bool x4, .int .i64 x5])] : List (Nat × TypeId × Array Value)) 0, qx.1 ≠ (w.heap.size + 1) := by simp [butBox] <;> omega
        have hF := hB.put6 (i := 0) rfl hge hne (.int .i64 2 : Value) (.int .i64 y1 : Value) (.int .i64 y2 : Value) (.string y3 : Value) (.bool y4 : Value) (.int .i64 y5 : Value); clear kz hB hne hge; go_simp; exact ⟨hF, trivial, trivial⟩
  · intro a W' vals hd hsz hT hF hv hP hS
    obtain ⟨v0, v1, rfl⟩ : ∃ v0 v1, vals = [v0, v1] := by
      match vals, hv with
      | [v0, v1], _ => exact ⟨v0, v1, rfl⟩
    have hS2 : SX w 2 ([.put 1 #[.int .i64 2, .int .i64 x1, .int .i64 x2, .string x3, .bool x4, .int .i64 x5], .put 0 #[.int .i64 2, .int .i64 y1, .int .i64 y2, .string y3, .bool y4, .int .i64 y5]] : List Stp) [v0, v1] ([(w.heap.size + 1, 32, #[.int .i64 k', .int .i64 m', .int .i64 s', .string t', .bool b', .int .i64 e']), (w.heap.size, 32, #[.int .i64 k, .int .i64 m, .int .i64 s, .string t, .bool b, .int .i64 e])] : List (Nat × TypeId × Array Value)) W' := hS; clear hS; have hB0 := hS2; have hB : SB w 2 ([(w.heap.size + 1, 32, #[.int .i64 2, .int .i64 y1, .int .i64 y2, .string y3, .bool y4, .int .i64 y5]), (w.heap.size, 32, #[.int .i64 2, .int .i64 x1, .int .i64 x2, .string x3, .bool x4, .int .i64 x5])] : List (Nat × TypeId × Array Value)) W' := hB0; clear hB0; have e2 : a.tmps.getD 2 undef = .pointer (some ⟨w.heap.size, 0, none⟩) := hT 2 (by simp); have e3 : a.tmps.getD 3 undef = .pointer (some ⟨w.heap.size + 1, 0, none⟩) := hT 3 (by simp); clear hT hF hP; rw [act_lit 53 a hd hsz]; simp only [List.range, List.range.loop, List.map, e2, e3]; clear hd hsz e2 e3; have ky := hB.box (i := 0) rfl; have cy0 := ky.cell 0; have cy1 := ky.cell 1; have cy2 := ky.cell 2; have cy3 := ky.cell 3; have cy4 := ky.cell 4; have cy5 := ky.cell 5; clear ky; have kx := hB.box (i := 1) rfl; have cx0 := kx.cell 0; have cx1 := kx.cell 1; have cx2 := kx.cell 2; have cx3 := kx.cell 3; have cx4 := kx.cell 4; have cx5 := kx.cell 5; clear kx
    go_wp2_with fail
    refine (HC.out _).mono ?_; rintro x w9 ⟨rfl, hb⟩; have hbel := (hB.call hb).bel; clear hb hB HB HX HY HC; go_wp2; go_ret; exact ⟨rfl, hbel⟩
set_option maxRecDepth 20000 in
set_option maxHeartbeats 4000000 in
theorem compare_err {w : World} {k m s : Int} {t : ByteArray} {b : Bool} {e : Int} {k' m' s' : Int} {t' : ByteArray} {b' : Bool} {e' : Int} {x1 x2 : Int} {x3 : ByteArray} {x4 : Bool} {x5 : Int} {y1 y2 : Int} {y3 : ByteArray} {y4 : Bool} {y5 : Int}
    (KX : ∀ W : World, Calls Tryz.prog 82 #[.agg #[.int .i64 k, .int .i64 m, .int .i64 s, .string t, .bool b, .int .i64 e], .agg #[.int .i64 k', .int .i64 m', .int .i64 s', .string t', .bool b', .int .i64 e']] W fun x w' => x = .returned (.agg #[.int .i64 4, .int .i64 x1, .int .i64 x2, .string x3, .bool x4, .int .i64 x5]) ∧ Below W.heap.size W w')
    (KY : ∀ W : World, Calls Tryz.prog 82 #[.agg #[.int .i64 k', .int .i64 m', .int .i64 s', .string t', .bool b', .int .i64 e'], .agg #[.int .i64 k, .int .i64 m, .int .i64 s, .string t, .bool b, .int .i64 e]] W fun x w' => x = .returned (.agg #[.int .i64 4, .int .i64 y1, .int .i64 y2, .string y3, .bool y4, .int .i64 y5]) ∧ Below W.heap.size W w') :
    Calls Tryz.prog 27 #[.agg #[.int .i64 k, .int .i64 m, .int .i64 s, .string t, .bool b, .int .i64 e], .agg #[.int .i64 k', .int .i64 m', .int .i64 s', .string t', .bool b', .int .i64 e']] w fun x w' => x = .returned (.int .i64 (cmp x5 y5)) ∧ Below w.heap.size w w' := by
  have HX := Lib.hid KX; have HY := Lib.hid KY; clear KX KY; have HC := Lib.hid (fun W : World => cmp_int (w := W) x5 y5); generalize cmp x5 y5 = C at *; have HB := Lib.hid ((sb1 w 32 #[.int .i64 k, .int .i64 m, .int .i64 s, .string t, .bool b, .int .i64 e]).push (by simp) 32 #[.int .i64 k', .int .i64 m', .int .i64 s', .string t', .bool b', .int .i64 e']); go_enter Tryz.func27, Tryz.ntmps27
  go_wp2_with fail
  refine wp_region_early (S := (fun vals W => SX w 2 ([.put 1 #[.int .i64 4, .int .i64 x1, .int .i64 x2, .string x3, .bool x4, .int .i64 x5], .put 0 #[.int .i64 4, .int .i64 y1, .int .i64 y2, .string y3, .bool y4, .int .i64 y5]] : List Stp) vals ([(w.heap.size + 1, 32, #[.int .i64 k', .int .i64 m', .int .i64 s', .string t', .bool b', .int .i64 e']), (w.heap.size, 32, #[.int .i64 k, .int .i64 m, .int .i64 s, .string t, .bool b, .int .i64 e])] : List (Nat × TypeId × Array Value)) W)) (E := (fun _ _ => True)) [6, 7] [(2, Is (.pointer (some ⟨w.heap.size, 0, none⟩))), (3, Is (.pointer (some ⟨w.heap.size + 1, 0, none⟩)))] [(5, Is (.agg #[.int .i64 k, .int .i64 m, .int .i64 s, .string t, .bool b, .int .i64 e])), (6, Is (.agg #[.int .i64 k', .int .i64 m', .int .i64 s', .string t', .bool b', .int .i64 e'])), (7, Is (.agg #[.int .i64 4, .int .i64 x1, .int .i64 x2, .string x3, .bool x4, .int .i64 x5])), (8, Is (.agg #[.int .i64 k', .int .i64 m', .int .i64 s', .string t', .bool b', .int .i64 e'])), (9, Is (.agg #[.int .i64 k, .int .i64 m, .int .i64 s, .string t, .bool b, .int .i64 e])), (10, Is (.agg #[.int .i64 4, .int .i64 y1, .int .i64 y2, .string y3, .bool y4, .int .i64 y5]))]
    [.op [2] none, .op [3] none, .op [5, 6] none, .op [3] none, .op [2] none, .op [8, 9] none, .phase 0 [2, 7] [], .phase 1 [3, 10] []] (by as_aux_lemma => kernel_rfl) ?_ ?_ ?_ ?_ ?_ ⟨stable_is _ _, stable_is _ _, stable_is _ _, stable_is _ _, stable_is _ _, stable_is _ _, stable_is _ _, stable_is _ _, trivial⟩ ?_ (HB.out.drew) ?_ ?_
  · as_aux_lemma => kernel_rfl
  · as_aux_lemma => kernel_rfl
  · as_aux_lemma => kernel_rfl
  · as_aux_lemma => kernel_rfl
  · as_aux_lemma => kernel_rfl
  · exact ⟨rfl, rfl, trivial⟩
  · refine ⟨?_, ?_, ?_, ?_, ?_, ?_, ?_, ?_, trivial⟩
    · as_aux_lemma => intro vals hE a W hS hL; obtain rfl : vals = [] := List.eq_nil_of_length_eq_zero (Nat.le_zero.1 (hE 0 (by kernel_rfl))); have e2 : a.tmps.getD 2 undef = .pointer (some ⟨w.heap.size, 0, none⟩) := hL.1; clear hL; have kb : Bk W (w.heap.size) 32 #[.int .i64 k, .int .i64 m, .int .i64 s, .string t, .bool b, .int .i64 e] := SB.box (i := 1) hS rfl; have f0 := kb.cell 0; have f1 := kb.cell 1; have f2 := kb.cell 2; have f3 := kb.cell 3; have f4 := kb.cell 4; have f5 := kb.cell 5; clear kb; go_simp; exact ⟨dstY (by rfl), hS, trivial⟩
    · as_aux_lemma => intro vals hE a W hS hL; obtain rfl : vals = [] := List.eq_nil_of_length_eq_zero (Nat.le_zero.1 (hE 0 (by kernel_rfl))); have e3 : a.tmps.getD 3 undef = .pointer (some ⟨w.heap.size + 1, 0, none⟩) := hL.1; clear hL; have kb : Bk W (w.heap.size + 1) 32 #[.int .i64 k', .int .i64 m', .int .i64 s', .string t', .bool b', .int .i64 e'] := SB.box (i := 0) hS rfl; have f0 := kb.cell 0; have f1 := kb.cell 1; have f2 := kb.cell 2; have f3 := kb.cell 3; have f4 := kb.cell 4; have f5 := kb.cell 5; clear kb; go_simp; exact ⟨dstY (by rfl), hS, trivial⟩
    · as_aux_lemma => intro vals hE a W hS hL; obtain rfl : vals = [] := List.eq_nil_of_length_eq_zero (Nat.le_zero.1 (hE 0 (by kernel_rfl))); have e5 : a.tmps.getD 5 undef = .agg #[.int .i64 k, .int .i64 m, .int .i64 s, .string t, .bool b, .int .i64 e] := hL.1; have e6 : a.tmps.getD 6 undef = .agg #[.int .i64 k', .int .i64 m', .int .i64 s', .string t', .bool b', .int .i64 e'] := hL.2.1; clear hL; go_simp; refine (HX.out W).mono ?_; rintro e W' ⟨rfl, hb⟩; exact ⟨_, rfl, dstY (by rfl), hS.call hb, trivial⟩
    · as_aux_lemma =>
        intro vals hE a W hS hL; have hE1 := hE 1 (by kernel_rfl); have e3 : a.tmps.getD 3 undef = .pointer (some ⟨w.heap.size + 1, 0, none⟩) := hL.1; clear hL
        have kb : Bk W (w.heap.size + 1) 32 #[.int .i64 k', .int .i64 m', .int .i64 s', .string t', .bool b', .int .i64 e'] := by
          match vals, hE1, hS with
          | [], _, hS => exact SB.box (i := 0) hS rfl
          | [_], _, hS => exact SB.box (i := 0) hS rfl
        have f0 := kb.cell 0; have f1 := kb.cell 1; have f2 := kb.cell 2; have f3 := kb.cell 3; have f4 := kb.cell 4; have f5 := kb.cell 5; clear kb; go_simp; exact ⟨dstY (by rfl), hS, trivial⟩
    · as_aux_lemma => intro vals hE a W hS hL; obtain rfl : vals = [] := List.eq_nil_of_length_eq_zero (Nat.le_zero.1 (hE 0 (by kernel_rfl))); have e2 : a.tmps.getD 2 undef = .pointer (some ⟨w.heap.size, 0, none⟩) := hL.1; clear hL; have kb : Bk W (w.heap.size) 32 #[.int .i64 k, .int .i64 m, .int .i64 s, .string t, .bool b, .int .i64 e] := SB.box (i := 1) hS rfl; have f0 := kb.cell 0; have f1 := kb.cell 1; have f2 := kb.cell 2; have f3 := kb.cell 3; have f4 := kb.cell 4; have f5 := kb.cell 5; clear kb; go_simp; exact ⟨dstY (by rfl), hS, trivial⟩
    · as_aux_lemma => intro vals hE a W hS hL; have hE1 := hE 1 (by kernel_rfl); have e8 : a.tmps.getD 8 undef = .agg #[.int .i64 k', .int .i64 m', .int .i64 s', .string t', .bool b', .int .i64 e'] := hL.1; have e9 : a.tmps.getD 9 undef = .agg #[.int .i64 k, .int .i64 m, .int .i64 s, .string t, .bool b, .int .i64 e] := hL.2.1; clear hL; go_simp; refine (HY.out W).mono ?_; rintro e W' ⟨rfl, hb⟩; exact ⟨_, rfl, dstY (by rfl), hS.call hb, trivial⟩
    · skip
      intro a W vals hv hS hL hp; have e2 : a.tmps.getD 2 undef = .pointer (some ⟨w.heap.size, 0, none⟩) := hL.1; have e7 : a.tmps.getD 7 undef = .agg #[.int .i64 4, .int .i64 x1, .int .i64 x2, .string x3, .bool x4, .int .i64 x5] := hL.2.1; clear hL
      match vals, hv, hS with
      | [], _, hS =>
        have hS2 : SX w 2 ([.put 1 #[.int .i64 4, .int .i64 x1, .int .i64 x2, .string x3, .bool x4, .int .i64 x5], .put 0 #[.int .i64 4, .int .i64 y1, .int .i64 y2, .string y3, .bool y4, .int .i64 y5]] : List Stp) [] ([(w.heap.size + 1, 32, #[.int .i64 k', .int .i64 m', .int .i64 s', .string t', .bool b', .int .i64 e']), (w.heap.size, 32, #[.int .i64 k, .int .i64 m, .int .i64 s, .string t, .bool b, .int .i64 e])] : List (Nat × TypeId × Array Value)) W := hS; clear hS; have hB0 := hS2; have hB : SB w 2 ([(w.heap.size + 1, 32, #[.int .i64 k', .int .i64 m', .int .i64 s', .string t', .bool b', .int .i64 e']), (w.heap.size, 32, #[.int .i64 k, .int .i64 m, .int .i64 s, .string t, .bool b, .int .i64 e])] : List (Nat × TypeId × Array Value)) W := hB0; clear hB0; rw [Array.getD_eq_getD_getElem?] at e7; have kz := hB.box (i := 1) rfl; have z0 := kz.frozen 0; have q0 := kz.cell 0; have z1 := kz.frozen 1; have q1 := kz.cell 1; have z2 := kz.frozen 2; have q2 := kz.cell 2; have z3 := kz.frozen 3; have q3 := kz.cell 3; have z4 := kz.frozen 4; have q4 := kz.cell 4; have z5 := kz.frozen 5; have q5 := kz.cell 5; have hge : w.heap.size ≤ (w.heap.size) := by omega
        have hne : ∀ qx ∈ butBox ([(w.heap.size + 1, 32, #[.int .i64 k', .int .i64 m', .int .i64 s', .string t', .bool b', .int .i64 e']), (w.heap.size, 32, #[.int .i64 k, .int .i64 m, .int .i64 s, .string t, .bool b, .int .i64 e])] : List (Nat × TypeId × Array Value)) 1, qx.1 ≠ (w.heap.size) := by simp [butBox] <;> omega
        have hF := hB.put6 (i := 1) rfl hge hne (.int .i64 4 : Value) (.int .i64 x1 : Value) (.int .i64 x2 : Value) (.string x3 : Value) (.bool x4 : Value) (.int .i64 x5 : Value); clear kz hB hne hge; go_simp; exact ⟨hF, trivial, trivial⟩
    · skip
      intro a W vals hv hS hL hp; have e3 : a.tmps.getD 3 undef = .pointer (some ⟨w.heap.size + 1, 0, none⟩) := hL.1; have e10 : a.tmps.getD 10 undef = .agg #[.int .i64 4, .int .i64 y1, .int .i64 y2, .string y3, .bool y4, .int .i64 y5] := hL.2.1; clear hL
      match vals, hv, hS with
      | [v0], _, hS =>
        have hS2 : SX w 2 ([.put 1 #[.int .i64 4, .int .i64 x1, .int .i64 x2, .string x3, .bool x4, .int .i64 x5], .put 0 #[.int .i64 4, .int .i64 y1, .int .i64 y2, .string y3, .bool y4, .int .i64 y5]] : List Stp) [v0] ([(w.heap.size + 1, 32, #[.int .i64 k', .int .i64 m', .int .i64 s', .string t', .bool b', .int .i64 e']), (w.heap.size, 32, #[.int .i64 k, .int .i64 m, .int .i64 s, .string t, .bool b, .int .i64 e])] : List (Nat × TypeId × Array Value)) W := hS; clear hS; have hB0 := hS2; have hB : SB w 2 ([(w.heap.size + 1, 32, #[.int .i64 k', .int .i64 m', .int .i64 s', .string t', .bool b', .int .i64 e']), (w.heap.size, 32, #[.int .i64 4, .int .i64 x1, .int .i64 x2, .string x3, .bool x4, .int .i64 x5])] : List (Nat × TypeId × Array Value)) W := hB0; clear hB0; rw [Array.getD_eq_getD_getElem?] at e10; have kz := hB.box (i := 0) rfl; have z0 := kz.frozen 0; have q0 := kz.cell 0; have z1 := kz.frozen 1; have q1 := kz.cell 1; have z2 := kz.frozen 2; have q2 := kz.cell 2; have z3 := kz.frozen 3; have q3 := kz.cell 3; have z4 := kz.frozen 4; have q4 := kz.cell 4; have z5 := kz.frozen 5; have q5 := kz.cell 5; have hge : w.heap.size ≤ (w.heap.size + 1) := by omega
        have hne : ∀ qx ∈ butBox ([(w.heap.size + 1, 32, #[.int .i64 k', .int .i64 m', .int .i64 s', .string t', .bool b', .int .i64 e']), (w.heap.size, 32, #[.int .i64 4, .int .i64 x1, .int .i64 x2, .string x3, .bool x4, .int .i64 x5])] : List (Nat × TypeId × Array Value)) 0, qx.1 ≠ (w.heap.size + 1) := by simp [butBox] <;> omega
        have hF := hB.put6 (i := 0) rfl hge hne (.int .i64 4 : Value) (.int .i64 y1 : Value) (.int .i64 y2 : Value) (.string y3 : Value) (.bool y4 : Value) (.int .i64 y5 : Value); clear kz hB hne hge; go_simp; exact ⟨hF, trivial, trivial⟩
  · intro a W' vals hd hsz hT hF hv hP hS
    obtain ⟨v0, v1, rfl⟩ : ∃ v0 v1, vals = [v0, v1] := by
      match vals, hv with
      | [v0, v1], _ => exact ⟨v0, v1, rfl⟩
    have hS2 : SX w 2 ([.put 1 #[.int .i64 4, .int .i64 x1, .int .i64 x2, .string x3, .bool x4, .int .i64 x5], .put 0 #[.int .i64 4, .int .i64 y1, .int .i64 y2, .string y3, .bool y4, .int .i64 y5]] : List Stp) [v0, v1] ([(w.heap.size + 1, 32, #[.int .i64 k', .int .i64 m', .int .i64 s', .string t', .bool b', .int .i64 e']), (w.heap.size, 32, #[.int .i64 k, .int .i64 m, .int .i64 s, .string t, .bool b, .int .i64 e])] : List (Nat × TypeId × Array Value)) W' := hS; clear hS; have hB0 := hS2; have hB : SB w 2 ([(w.heap.size + 1, 32, #[.int .i64 4, .int .i64 y1, .int .i64 y2, .string y3, .bool y4, .int .i64 y5]), (w.heap.size, 32, #[.int .i64 4, .int .i64 x1, .int .i64 x2, .string x3, .bool x4, .int .i64 x5])] : List (Nat × TypeId × Array Value)) W' := hB0; clear hB0; have e2 : a.tmps.getD 2 undef = .pointer (some ⟨w.heap.size, 0, none⟩) := hT 2 (by simp); have e3 : a.tmps.getD 3 undef = .pointer (some ⟨w.heap.size + 1, 0, none⟩) := hT 3 (by simp); clear hT hF hP; rw [act_lit 53 a hd hsz]; simp only [List.range, List.range.loop, List.map, e2, e3]; clear hd hsz e2 e3; have ky := hB.box (i := 0) rfl; have cy0 := ky.cell 0; have cy1 := ky.cell 1; have cy2 := ky.cell 2; have cy3 := ky.cell 3; have cy4 := ky.cell 4; have cy5 := ky.cell 5; clear ky; have kx := hB.box (i := 1) rfl; have cx0 := kx.cell 0; have cx1 := kx.cell 1; have cx2 := kx.cell 2; have cx3 := kx.cell 3; have cx4 := kx.cell 4; have cx5 := kx.cell 5; clear kx
    go_wp2_with fail
    refine (HC.out _).mono ?_; rintro x w9 ⟨rfl, rfl⟩; have hbel := hB.bel; clear hB HB HX HY HC; go_wp2; go_ret; exact ⟨rfl, hbel⟩
set_option maxRecDepth 20000 in
set_option maxHeartbeats 4000000 in
theorem compare_blank {w : World} {k m s : Int} {t : ByteArray} {b : Bool} {e : Int} {k' m' s' : Int} {t' : ByteArray} {b' : Bool} {e' : Int} {x1 x2 : Int} {x3 : ByteArray} {x4 : Bool} {x5 : Int} {y1 y2 : Int} {y3 : ByteArray} {y4 : Bool} {y5 : Int}
    (KX : ∀ W : World, Calls Tryz.prog 82 #[.agg #[.int .i64 k, .int .i64 m, .int .i64 s, .string t, .bool b, .int .i64 e], .agg #[.int .i64 k', .int .i64 m', .int .i64 s', .string t', .bool b', .int .i64 e']] W fun x w' => x = .returned (.agg #[.int .i64 0, .int .i64 x1, .int .i64 x2, .string x3, .bool x4, .int .i64 x5]) ∧ Below W.heap.size W w')
    (KY : ∀ W : World, Calls Tryz.prog 82 #[.agg #[.int .i64 k', .int .i64 m', .int .i64 s', .string t', .bool b', .int .i64 e'], .agg #[.int .i64 k, .int .i64 m, .int .i64 s, .string t, .bool b, .int .i64 e]] W fun x w' => x = .returned (.agg #[.int .i64 0, .int .i64 y1, .int .i64 y2, .string y3, .bool y4, .int .i64 y5]) ∧ Below W.heap.size W w') :
    Calls Tryz.prog 27 #[.agg #[.int .i64 k, .int .i64 m, .int .i64 s, .string t, .bool b, .int .i64 e], .agg #[.int .i64 k', .int .i64 m', .int .i64 s', .string t', .bool b', .int .i64 e']] w fun x w' => x = .returned (.int .i64 0) ∧ Below w.heap.size w w' := by
  have HX := Lib.hid KX; have HY := Lib.hid KY; clear KX KY; have HB := Lib.hid ((sb1 w 32 #[.int .i64 k, .int .i64 m, .int .i64 s, .string t, .bool b, .int .i64 e]).push (by simp) 32 #[.int .i64 k', .int .i64 m', .int .i64 s', .string t', .bool b', .int .i64 e']); go_enter Tryz.func27, Tryz.ntmps27
  go_wp2_with fail
  refine wp_region_early (S := (fun vals W => SX w 2 ([.put 1 #[.int .i64 0, .int .i64 x1, .int .i64 x2, .string x3, .bool x4, .int .i64 x5], .put 0 #[.int .i64 0, .int .i64 y1, .int .i64 y2, .string y3, .bool y4, .int .i64 y5]] : List Stp) vals ([(w.heap.size + 1, 32, #[.int .i64 k', .int .i64 m', .int .i64 s', .string t', .bool b', .int .i64 e']), (w.heap.size, 32, #[.int .i64 k, .int .i64 m, .int .i64 s, .string t, .bool b, .int .i64 e])] : List (Nat × TypeId × Array Value)) W)) (E := (fun _ _ => True)) [6, 7] [(2, Is (.pointer (some ⟨w.heap.size, 0, none⟩))), (3, Is (.pointer (some ⟨w.heap.size + 1, 0, none⟩)))] [(5, Is (.agg #[.int .i64 k, .int .i64 m, .int .i64 s, .string t, .bool b, .int .i64 e])), (6, Is (.agg #[.int .i64 k', .int .i64 m', .int .i64 s', .string t', .bool b', .int .i64 e'])), (7, Is (.agg #[.int .i64 0, .int .i64 x1, .int .i64 x2, .string x3, .bool x4, .int .i64 x5])), (8, Is (.agg #[.int .i64 k', .int .i64 m', .int .i64 s', .string t', .bool b', .int .i64 e'])), (9, Is (.agg #[.int .i64 k, .int .i64 m, .int .i64 s, .string t, .bool b, .int .i64 e])), (10, Is (.agg #[.int .i64 0, .int .i64 y1, .int .i64 y2, .string y3, .bool y4, .int .i64 y5]))]
    [.op [2] none, .op [3] none, .op [5, 6] none, .op [3] none, .op [2] none, .op [8, 9] none, .phase 0 [2, 7] [], .phase 1 [3, 10] []] (by as_aux_lemma => kernel_rfl) ?_ ?_ ?_ ?_ ?_ ⟨stable_is _ _, stable_is _ _, stable_is _ _, stable_is _ _, stable_is _ _, stable_is _ _, stable_is _ _, stable_is _ _, trivial⟩ ?_ (HB.out.drew) ?_ ?_
  · as_aux_lemma => kernel_rfl
  · as_aux_lemma => kernel_rfl
  · as_aux_lemma => kernel_rfl
  · as_aux_lemma => kernel_rfl
  · as_aux_lemma => kernel_rfl
  · exact ⟨rfl, rfl, trivial⟩
  · refine ⟨?_, ?_, ?_, ?_, ?_, ?_, ?_, ?_, trivial⟩
    · as_aux_lemma => intro vals hE a W hS hL; obtain rfl : vals = [] := List.eq_nil_of_length_eq_zero (Nat.le_zero.1 (hE 0 (by kernel_rfl))); have e2 : a.tmps.getD 2 undef = .pointer (some ⟨w.heap.size, 0, none⟩) := hL.1; clear hL; have kb : Bk W (w.heap.size) 32 #[.int .i64 k, .int .i64 m, .int .i64 s, .string t, .bool b, .int .i64 e] := SB.box (i := 1) hS rfl; have f0 := kb.cell 0; have f1 := kb.cell 1; have f2 := kb.cell 2; have f3 := kb.cell 3; have f4 := kb.cell 4; have f5 := kb.cell 5; clear kb; go_simp; exact ⟨dstY (by rfl), hS, trivial⟩
    · as_aux_lemma => intro vals hE a W hS hL; obtain rfl : vals = [] := List.eq_nil_of_length_eq_zero (Nat.le_zero.1 (hE 0 (by kernel_rfl))); have e3 : a.tmps.getD 3 undef = .pointer (some ⟨w.heap.size + 1, 0, none⟩) := hL.1; clear hL; have kb : Bk W (w.heap.size + 1) 32 #[.int .i64 k', .int .i64 m', .int .i64 s', .string t', .bool b', .int .i64 e'] := SB.box (i := 0) hS rfl; have f0 := kb.cell 0; have f1 := kb.cell 1; have f2 := kb.cell 2; have f3 := kb.cell 3; have f4 := kb.cell 4; have f5 := kb.cell 5; clear kb; go_simp; exact ⟨dstY (by rfl), hS, trivial⟩
    · as_aux_lemma => intro vals hE a W hS hL; obtain rfl : vals = [] := List.eq_nil_of_length_eq_zero (Nat.le_zero.1 (hE 0 (by kernel_rfl))); have e5 : a.tmps.getD 5 undef = .agg #[.int .i64 k, .int .i64 m, .int .i64 s, .string t, .bool b, .int .i64 e] := hL.1; have e6 : a.tmps.getD 6 undef = .agg #[.int .i64 k', .int .i64 m', .int .i64 s', .string t', .bool b', .int .i64 e'] := hL.2.1; clear hL; go_simp; refine (HX.out W).mono ?_; rintro e W' ⟨rfl, hb⟩; exact ⟨_, rfl, dstY (by rfl), hS.call hb, trivial⟩
    · as_aux_lemma =>
        intro vals hE a W hS hL; have hE1 := hE 1 (by kernel_rfl); have e3 : a.tmps.getD 3 undef = .pointer (some ⟨w.heap.size + 1, 0, none⟩) := hL.1; clear hL
        have kb : Bk W (w.heap.size + 1) 32 #[.int .i64 k', .int .i64 m', .int .i64 s', .string t', .bool b', .int .i64 e'] := by
          match vals, hE1, hS with
          | [], _, hS => exact SB.box (i := 0) hS rfl
          | [_], _, hS => exact SB.box (i := 0) hS rfl
        have f0 := kb.cell 0; have f1 := kb.cell 1; have f2 := kb.cell 2; have f3 := kb.cell 3; have f4 := kb.cell 4; have f5 := kb.cell 5; clear kb; go_simp; exact ⟨dstY (by rfl), hS, trivial⟩
    · as_aux_lemma => intro vals hE a W hS hL; obtain rfl : vals = [] := List.eq_nil_of_length_eq_zero (Nat.le_zero.1 (hE 0 (by kernel_rfl))); have e2 : a.tmps.getD 2 undef = .pointer (some ⟨w.heap.size, 0, none⟩) := hL.1; clear hL; have kb : Bk W (w.heap.size) 32 #[.int .i64 k, .int .i64 m, .int .i64 s, .string t, .bool b, .int .i64 e] := SB.box (i := 1) hS rfl; have f0 := kb.cell 0; have f1 := kb.cell 1; have f2 := kb.cell 2; have f3 := kb.cell 3; have f4 := kb.cell 4; have f5 := kb.cell 5; clear kb; go_simp; exact ⟨dstY (by rfl), hS, trivial⟩
    · as_aux_lemma => intro vals hE a W hS hL; have hE1 := hE 1 (by kernel_rfl); have e8 : a.tmps.getD 8 undef = .agg #[.int .i64 k', .int .i64 m', .int .i64 s', .string t', .bool b', .int .i64 e'] := hL.1; have e9 : a.tmps.getD 9 undef = .agg #[.int .i64 k, .int .i64 m, .int .i64 s, .string t, .bool b, .int .i64 e] := hL.2.1; clear hL; go_simp; refine (HY.out W).mono ?_; rintro e W' ⟨rfl, hb⟩; exact ⟨_, rfl, dstY (by rfl), hS.call hb, trivial⟩
    · skip
      intro a W vals hv hS hL hp; have e2 : a.tmps.getD 2 undef = .pointer (some ⟨w.heap.size, 0, none⟩) := hL.1; have e7 : a.tmps.getD 7 undef = .agg #[.int .i64 0, .int .i64 x1, .int .i64 x2, .string x3, .bool x4, .int .i64 x5] := hL.2.1; clear hL
      match vals, hv, hS with
      | [], _, hS =>
        have hS2 : SX w 2 ([.put 1 #[.int .i64 0, .int .i64 x1, .int .i64 x2, .string x3, .bool x4, .int .i64 x5], .put 0 #[.int .i64 0, .int .i64 y1, .int .i64 y2, .string y3, .bool y4, .int .i64 y5]] : List Stp) [] ([(w.heap.size + 1, 32, #[.int .i64 k', .int .i64 m', .int .i64 s', .string t', .bool b', .int .i64 e']), (w.heap.size, 32, #[.int .i64 k, .int .i64 m, .int .i64 s, .string t, .bool b, .int .i64 e])] : List (Nat × TypeId × Array Value)) W := hS; clear hS; have hB0 := hS2; have hB : SB w 2 ([(w.heap.size + 1, 32, #[.int .i64 k', .int .i64 m', .int .i64 s', .string t', .bool b', .int .i64 e']), (w.heap.size, 32, #[.int .i64 k, .int .i64 m, .int .i64 s, .string t, .bool b, .int .i64 e])] : List (Nat × TypeId × Array Value)) W := hB0; clear hB0; rw [Array.getD_eq_getD_getElem?] at e7; have kz := hB.box (i := 1) rfl; have z0 := kz.frozen 0; have q0 := kz.cell 0; have z1 := kz.frozen 1; have q1 := kz.cell 1; have z2 := kz.frozen 2; have q2 := kz.cell 2; have z3 := kz.frozen 3; have q3 := kz.cell 3; have z4 := kz.frozen 4; have q4 := kz.cell 4; have z5 := kz.frozen 5; have q5 := kz.cell 5; have hge : w.heap.size ≤ (w.heap.size) := by omega
        have hne : ∀ qx ∈ butBox ([(w.heap.size + 1, 32, #[.int .i64 k', .int .i64 m', .int .i64 s', .string t', .bool b', .int .i64 e']), (w.heap.size, 32, #[.int .i64 k, .int .i64 m, .int .i64 s, .string t, .bool b, .int .i64 e])] : List (Nat × TypeId × Array Value)) 1, qx.1 ≠ (w.heap.size) := by simp [butBox] <;> omega
        have hF := hB.put6 (i := 1) rfl hge hne (.int .i64 0 : Value) (.int .i64 x1 : Value) (.int .i64 x2 : Value) (.string x3 : Value) (.bool x4 : Value) (.int .i64 x5 : Value); clear kz hB hne hge; go_simp; exact ⟨hF, trivial, trivial⟩
    · skip
      intro a W vals hv hS hL hp; have e3 : a.tmps.getD 3 undef = .pointer (some ⟨w.heap.size + 1, 0, none⟩) := hL.1; have e10 : a.tmps.getD 10 undef = .agg #[.int .i64 0, .int .i64 y1, .int .i64 y2, .string y3, .bool y4, .int .i64 y5] := hL.2.1; clear hL
      match vals, hv, hS with
      | [v0], _, hS =>
        have hS2 : SX w 2 ([.put 1 #[.int .i64 0, .int .i64 x1, .int .i64 x2, .string x3, .bool x4, .int .i64 x5], .put 0 #[.int .i64 0, .int .i64 y1, .int .i64 y2, .string y3, .bool y4, .int .i64 y5]] : List Stp) [v0] ([(w.heap.size + 1, 32, #[.int .i64 k', .int .i64 m', .int .i64 s', .string t', .bool b', .int .i64 e']), (w.heap.size, 32, #[.int .i64 k, .int .i64 m, .int .i64 s, .string t, .bool b, .int .i64 e])] : List (Nat × TypeId × Array Value)) W := hS; clear hS; have hB0 := hS2; have hB : SB w 2 ([(w.heap.size + 1, 32, #[.int .i64 k', .int .i64 m', .int .i64 s', .string t', .bool b', .int .i64 e']), (w.heap.size, 32, #[.int .i64 0, .int .i64 x1, .int .i64 x2, .string x3, .bool x4, .int .i64 x5])] : List (Nat × TypeId × Array Value)) W := hB0; clear hB0; rw [Array.getD_eq_getD_getElem?] at e10; have kz := hB.box (i := 0) rfl; have z0 := kz.frozen 0; have q0 := kz.cell 0; have z1 := kz.frozen 1; have q1 := kz.cell 1; have z2 := kz.frozen 2; have q2 := kz.cell 2; have z3 := kz.frozen 3; have q3 := kz.cell 3; have z4 := kz.frozen 4; have q4 := kz.cell 4; have z5 := kz.frozen 5; have q5 := kz.cell 5; have hge : w.heap.size ≤ (w.heap.size + 1) := by omega
        have hne : ∀ qx ∈ butBox ([(w.heap.size + 1, 32, #[.int .i64 k', .int .i64 m', .int .i64 s', .string t', .bool b', .int .i64 e']), (w.heap.size, 32, #[.int .i64 0, .int .i64 x1, .int .i64 x2, .string x3, .bool x4, .int .i64 x5])] : List (Nat × TypeId × Array Value)) 0, qx.1 ≠ (w.heap.size + 1) := by simp [butBox] <;> omega
        have hF := hB.put6 (i := 0) rfl hge hne (.int .i64 0 : Value) (.int .i64 y1 : Value) (.int .i64 y2 : Value) (.string y3 : Value) (.bool y4 : Value) (.int .i64 y5 : Value); clear kz hB hne hge; go_simp; exact ⟨hF, trivial, trivial⟩
  · intro a W' vals hd hsz hT hF hv hP hS
    obtain ⟨v0, v1, rfl⟩ : ∃ v0 v1, vals = [v0, v1] := by
      match vals, hv with
      | [v0, v1], _ => exact ⟨v0, v1, rfl⟩
    have hS2 : SX w 2 ([.put 1 #[.int .i64 0, .int .i64 x1, .int .i64 x2, .string x3, .bool x4, .int .i64 x5], .put 0 #[.int .i64 0, .int .i64 y1, .int .i64 y2, .string y3, .bool y4, .int .i64 y5]] : List Stp) [v0, v1] ([(w.heap.size + 1, 32, #[.int .i64 k', .int .i64 m', .int .i64 s', .string t', .bool b', .int .i64 e']), (w.heap.size, 32, #[.int .i64 k, .int .i64 m, .int .i64 s, .string t, .bool b, .int .i64 e])] : List (Nat × TypeId × Array Value)) W' := hS; clear hS; have hB0 := hS2; have hB : SB w 2 ([(w.heap.size + 1, 32, #[.int .i64 0, .int .i64 y1, .int .i64 y2, .string y3, .bool y4, .int .i64 y5]), (w.heap.size, 32, #[.int .i64 0, .int .i64 x1, .int .i64 x2, .string x3, .bool x4, .int .i64 x5])] : List (Nat × TypeId × Array Value)) W' := hB0; clear hB0; have e2 : a.tmps.getD 2 undef = .pointer (some ⟨w.heap.size, 0, none⟩) := hT 2 (by simp); have e3 : a.tmps.getD 3 undef = .pointer (some ⟨w.heap.size + 1, 0, none⟩) := hT 3 (by simp); clear hT hF hP; rw [act_lit 53 a hd hsz]; simp only [List.range, List.range.loop, List.map, e2, e3]; clear hd hsz e2 e3; have ky := hB.box (i := 0) rfl; have cy0 := ky.cell 0; have cy1 := ky.cell 1; have cy2 := ky.cell 2; have cy3 := ky.cell 3; have cy4 := ky.cell 4; have cy5 := ky.cell 5; clear ky; have kx := hB.box (i := 1) rfl; have cx0 := kx.cell 0; have cx1 := kx.cell 1; have cx2 := kx.cell 2; have cx3 := kx.cell 3; have cx4 := kx.cell 4; have cx5 := kx.cell 5; clear kx; have hbel := hB.bel; clear hB HB HX HY; go_wp2; go_ret; exact ⟨rfl, hbel⟩
set_option maxRecDepth 20000 in
set_option maxHeartbeats 4000000 in
theorem compare_bool {w : World} {k m s : Int} {t : ByteArray} {b : Bool} {e : Int} {k' m' s' : Int} {t' : ByteArray} {b' : Bool} {e' : Int} {x1 x2 : Int} {x3 : ByteArray} {x4 : Bool} {x5 : Int} {y1 y2 : Int} {y3 : ByteArray} {y4 : Bool} {y5 : Int}
    (KX : ∀ W : World, Calls Tryz.prog 82 #[.agg #[.int .i64 k, .int .i64 m, .int .i64 s, .string t, .bool b, .int .i64 e], .agg #[.int .i64 k', .int .i64 m', .int .i64 s', .string t', .bool b', .int .i64 e']] W fun x w' => x = .returned (.agg #[.int .i64 3, .int .i64 x1, .int .i64 x2, .string x3, .bool x4, .int .i64 x5]) ∧ Below W.heap.size W w')
    (KY : ∀ W : World, Calls Tryz.prog 82 #[.agg #[.int .i64 k', .int .i64 m', .int .i64 s', .string t', .bool b', .int .i64 e'], .agg #[.int .i64 k, .int .i64 m, .int .i64 s, .string t, .bool b, .int .i64 e]] W fun x w' => x = .returned (.agg #[.int .i64 3, .int .i64 y1, .int .i64 y2, .string y3, .bool y4, .int .i64 y5]) ∧ Below W.heap.size W w') :
    Calls Tryz.prog 27 #[.agg #[.int .i64 k, .int .i64 m, .int .i64 s, .string t, .bool b, .int .i64 e], .agg #[.int .i64 k', .int .i64 m', .int .i64 s', .string t', .bool b', .int .i64 e']] w fun x w' => x = .returned (.int .i64 (cmp (rk x4) (rk y4))) ∧ Below w.heap.size w w' := by
  have HX := Lib.hid KX; have HY := Lib.hid KY; clear KX KY; have H1 := Lib.hid (fun W : World => rank_any (w := W) x4); have H2 := Lib.hid (fun W : World => rank_any (w := W) y4); have HC := Lib.hid (fun W : World => cmp_i64 (w := W) (rk x4) (rk y4)); generalize cmp (rk x4) (rk y4) = C at *; generalize rk x4 = r1 at *; generalize rk y4 = r2 at *; have HB := Lib.hid ((sb1 w 32 #[.int .i64 k, .int .i64 m, .int .i64 s, .string t, .bool b, .int .i64 e]).push (by simp) 32 #[.int .i64 k', .int .i64 m', .int .i64 s', .string t', .bool b', .int .i64 e']); go_enter Tryz.func27, Tryz.ntmps27
  go_wp2_with fail
  refine wp_region_early (S := (fun vals W => SX w 2 ([.put 1 #[.int .i64 3, .int .i64 x1, .int .i64 x2, .string x3, .bool x4, .int .i64 x5], .put 0 #[.int .i64 3, .int .i64 y1, .int .i64 y2, .string y3, .bool y4, .int .i64 y5]] : List Stp) vals ([(w.heap.size + 1, 32, #[.int .i64 k', .int .i64 m', .int .i64 s', .string t', .bool b', .int .i64 e']), (w.heap.size, 32, #[.int .i64 k, .int .i64 m, .int .i64 s, .string t, .bool b, .int .i64 e])] : List (Nat × TypeId × Array Value)) W)) (E := (fun _ _ => True)) [6, 7] [(2, Is (.pointer (some ⟨w.heap.size, 0, none⟩))), (3, Is (.pointer (some ⟨w.heap.size + 1, 0, none⟩)))] [(5, Is (.agg #[.int .i64 k, .int .i64 m, .int .i64 s, .string t, .bool b, .int .i64 e])), (6, Is (.agg #[.int .i64 k', .int .i64 m', .int .i64 s', .string t', .bool b', .int .i64 e'])), (7, Is (.agg #[.int .i64 3, .int .i64 x1, .int .i64 x2, .string x3, .bool x4, .int .i64 x5])), (8, Is (.agg #[.int .i64 k', .int .i64 m', .int .i64 s', .string t', .bool b', .int .i64 e'])), (9, Is (.agg #[.int .i64 k, .int .i64 m, .int .i64 s, .string t, .bool b, .int .i64 e])), (10, Is (.agg #[.int .i64 3, .int .i64 y1, .int .i64 y2, .string y3, .bool y4, .int .i64 y5]))]
    [.op [2] none, .op [3] none, .op [5, 6] none, .op [3] none, .op [2] none, .op [8, 9] none, .phase 0 [2, 7] [], .phase 1 [3, 10] []] (by as_aux_lemma => kernel_rfl) ?_ ?_ ?_ ?_ ?_ ⟨stable_is _ _, stable_is _ _, stable_is _ _, stable_is _ _, stable_is _ _, stable_is _ _, stable_is _ _, stable_is _ _, trivial⟩ ?_ (HB.out.drew) ?_ ?_
  · as_aux_lemma => kernel_rfl
  · as_aux_lemma => kernel_rfl
  · as_aux_lemma => kernel_rfl
  · as_aux_lemma => kernel_rfl
  · as_aux_lemma => kernel_rfl
  · exact ⟨rfl, rfl, trivial⟩
  · refine ⟨?_, ?_, ?_, ?_, ?_, ?_, ?_, ?_, trivial⟩
    · as_aux_lemma => intro vals hE a W hS hL; obtain rfl : vals = [] := List.eq_nil_of_length_eq_zero (Nat.le_zero.1 (hE 0 (by kernel_rfl))); have e2 : a.tmps.getD 2 undef = .pointer (some ⟨w.heap.size, 0, none⟩) := hL.1; clear hL; have kb : Bk W (w.heap.size) 32 #[.int .i64 k, .int .i64 m, .int .i64 s, .string t, .bool b, .int .i64 e] := SB.box (i := 1) hS rfl; have f0 := kb.cell 0; have f1 := kb.cell 1; have f2 := kb.cell 2; have f3 := kb.cell 3; have f4 := kb.cell 4; have f5 := kb.cell 5; clear kb; go_simp; exact ⟨dstY (by rfl), hS, trivial⟩
    · as_aux_lemma => intro vals hE a W hS hL; obtain rfl : vals = [] := List.eq_nil_of_length_eq_zero (Nat.le_zero.1 (hE 0 (by kernel_rfl))); have e3 : a.tmps.getD 3 undef = .pointer (some ⟨w.heap.size + 1, 0, none⟩) := hL.1; clear hL; have kb : Bk W (w.heap.size + 1) 32 #[.int .i64 k', .int .i64 m', .int .i64 s', .string t', .bool b', .int .i64 e'] := SB.box (i := 0) hS rfl; have f0 := kb.cell 0; have f1 := kb.cell 1; have f2 := kb.cell 2; have f3 := kb.cell 3; have f4 := kb.cell 4; have f5 := kb.cell 5; clear kb; go_simp; exact ⟨dstY (by rfl), hS, trivial⟩
    · as_aux_lemma => intro vals hE a W hS hL; obtain rfl : vals = [] := List.eq_nil_of_length_eq_zero (Nat.le_zero.1 (hE 0 (by kernel_rfl))); have e5 : a.tmps.getD 5 undef = .agg #[.int .i64 k, .int .i64 m, .int .i64 s, .string t, .bool b, .int .i64 e] := hL.1; have e6 : a.tmps.getD 6 undef = .agg #[.int .i64 k', .int .i64 m', .int .i64 s', .string t', .bool b', .int .i64 e'] := hL.2.1; clear hL; go_simp; refine (HX.out W).mono ?_; rintro e W' ⟨rfl, hb⟩; exact ⟨_, rfl, dstY (by rfl), hS.call hb, trivial⟩
    · as_aux_lemma =>
        intro vals hE a W hS hL; have hE1 := hE 1 (by kernel_rfl); have e3 : a.tmps.getD 3 undef = .pointer (some ⟨w.heap.size + 1, 0, none⟩) := hL.1; clear hL
        have kb : Bk W (w.heap.size + 1) 32 #[.int .i64 k', .int .i64 m', .int .i64 s', .string t', .bool b', .int .i64 e'] := by
          match vals, hE1, hS with
          | [], _, hS => exact SB.box (i := 0) hS rfl
          | [_], _, hS => exact SB.box (i := 0) hS rfl
        have f0 := kb.cell 0; have f1 := kb.cell 1; have f2 := kb.cell 2; have f3 := kb.cell 3; have f4 := kb.cell 4; have f5 := kb.cell 5; clear kb; go_simp; exact ⟨dstY (by rfl), hS, trivial⟩
    · as_aux_lemma => intro vals hE a W hS hL; obtain rfl : vals = [] := List.eq_nil_of_length_eq_zero (Nat.le_zero.1 (hE 0 (by kernel_rfl))); have e2 : a.tmps.getD 2 undef = .pointer (some ⟨w.heap.size, 0, none⟩) := hL.1; clear hL; have kb : Bk W (w.heap.size) 32 #[.int .i64 k, .int .i64 m, .int .i64 s, .string t, .bool b, .int .i64 e] := SB.box (i := 1) hS rfl; have f0 := kb.cell 0; have f1 := kb.cell 1; have f2 := kb.cell 2; have f3 := kb.cell 3; have f4 := kb.cell 4; have f5 := kb.cell 5; clear kb; go_simp; exact ⟨dstY (by rfl), hS, trivial⟩
    · as_aux_lemma => intro vals hE a W hS hL; have hE1 := hE 1 (by kernel_rfl); have e8 : a.tmps.getD 8 undef = .agg #[.int .i64 k', .int .i64 m', .int .i64 s', .string t', .bool b', .int .i64 e'] := hL.1; have e9 : a.tmps.getD 9 undef = .agg #[.int .i64 k, .int .i64 m, .int .i64 s, .string t, .bool b, .int .i64 e] := hL.2.1; clear hL; go_simp; refine (HY.out W).mono ?_; rintro e W' ⟨rfl, hb⟩; exact ⟨_, rfl, dstY (by rfl), hS.call hb, trivial⟩
    · skip
      intro a W vals hv hS hL hp; have e2 : a.tmps.getD 2 undef = .pointer (some ⟨w.heap.size, 0, none⟩) := hL.1; have e7 : a.tmps.getD 7 undef = .agg #[.int .i64 3, .int .i64 x1, .int .i64 x2, .string x3, .bool x4, .int .i64 x5] := hL.2.1; clear hL
      match vals, hv, hS with
      | [], _, hS =>
        have hS2 : SX w 2 ([.put 1 #[.int .i64 3, .int .i64 x1, .int .i64 x2, .string x3, .bool x4, .int .i64 x5], .put 0 #[.int .i64 3, .int .i64 y1, .int .i64 y2, .string y3, .bool y4, .int .i64 y5]] : List Stp) [] ([(w.heap.size + 1, 32, #[.int .i64 k', .int .i64 m', .int .i64 s', .string t', .bool b', .int .i64 e']), (w.heap.size, 32, #[.int .i64 k, .int .i64 m, .int .i64 s, .string t, .bool b, .int .i64 e])] : List (Nat × TypeId × Array Value)) W := hS; clear hS; have hB0 := hS2; have hB : SB w 2 ([(w.heap.size + 1, 32, #[.int .i64 k', .int .i64 m', .int .i64 s', .string t', .bool b', .int .i64 e']), (w.heap.size, 32, #[.int .i64 k, .int .i64 m, .int .i64 s, .string t, .bool b, .int .i64 e])] : List (Nat × TypeId × Array Value)) W := hB0; clear hB0; rw [Array.getD_eq_getD_getElem?] at e7; have kz := hB.box (i := 1) rfl; have z0 := kz.frozen 0; have q0 := kz.cell 0; have z1 := kz.frozen 1; have q1 := kz.cell 1; have z2 := kz.frozen 2; have q2 := kz.cell 2; have z3 := kz.frozen 3; have q3 := kz.cell 3; have z4 := kz.frozen 4; have q4 := kz.cell 4; have z5 := kz.frozen 5; have q5 := kz.cell 5; have hge : w.heap.size ≤ (w.heap.size) := by omega
        have hne : ∀ qx ∈ butBox ([(w.heap.size + 1, 32, #[.int .i64 k', .int .i64 m', .int .i64 s', .string t', .bool b', .int .i64 e']), (w.heap.size, 32, #[.int .i64 k, .int .i64 m, .int .i64 s, .string t, .bool b, .int .i64 e])] : List (Nat × TypeId × Array Value)) 1, qx.1 ≠ (w.heap.size) := by simp [butBox] <;> omega
        have hF := hB.put6 (i := 1) rfl hge hne (.int .i64 3 : Value) (.int .i64 x1 : Value) (.int .i64 x2 : Value) (.string x3 : Value) (.bool x4 : Value) (.int .i64 x5 : Value); clear kz hB hne hge; go_simp; exact ⟨hF, trivial, trivial⟩
    · skip
      intro a W vals hv hS hL hp; have e3 : a.tmps.getD 3 undef = .pointer (some ⟨w.heap.size + 1, 0, none⟩) := hL.1; have e10 : a.tmps.getD 10 undef = .agg #[.int .i64 3, .int .i64 y1, .int .i64 y2, .string y3, .bool y4, .int .i64 y5] := hL.2.1; clear hL
      match vals, hv, hS with
      | [v0], _, hS =>
        have hS2 : SX w 2 ([.put 1 #[.int .i64 3, .int .i64 x1, .int .i64 x2, .string x3, .bool x4, .int .i64 x5], .put 0 #[.int .i64 3, .int .i64 y1, .int .i64 y2, .string y3, .bool y4, .int .i64 y5]] : List Stp) [v0] ([(w.heap.size + 1, 32, #[.int .i64 k', .int .i64 m', .int .i64 s', .string t', .bool b', .int .i64 e']), (w.heap.size, 32, #[.int .i64 k, .int .i64 m, .int .i64 s, .string t, .bool b, .int .i64 e])] : List (Nat × TypeId × Array Value)) W := hS; clear hS; have hB0 := hS2; have hB : SB w 2 ([(w.heap.size + 1, 32, #[.int .i64 k', .int .i64 m', .int .i64 s', .string t', .bool b', .int .i64 e']), (w.heap.size, 32, #[.int .i64 3, .int .i64 x1, .int .i64 x2, .string x3, .bool x4, .int .i64 x5])] : List (Nat × TypeId × Array Value)) W := hB0; clear hB0; rw [Array.getD_eq_getD_getElem?] at e10; have kz := hB.box (i := 0) rfl; have z0 := kz.frozen 0; have q0 := kz.cell 0; have z1 := kz.frozen 1; have q1 := kz.cell 1; have z2 := kz.frozen 2; have q2 := kz.cell 2; have z3 := kz.frozen 3; have q3 := kz.cell 3; have z4 := kz.frozen 4; have q4 := kz.cell 4; have z5 := kz.frozen 5; have q5 := kz.cell 5; have hge : w.heap.size ≤ (w.heap.size + 1) := by omega
        have hne : ∀ qx ∈ butBox ([(w.heap.size + 1, 32, #[.int .i64 k', .int .i64 m', .int .i64 s', .string t', .bool b', .int .i64 e']), (w.heap.size, 32, #[.int .i64 3, .int .i64 x1, .int .i64 x2, .string x3, .bool x4, .int .i64 x5])] : List (Nat × TypeId × Array Value)) 0, qx.1 ≠ (w.heap.size + 1) := by simp [butBox] <;> omega
        have hF := hB.put6 (i := 0) rfl hge hne (.int .i64 3 : Value) (.int .i64 y1 : Value) (.int .i64 y2 : Value) (.string y3 : Value) (.bool y4 : Value) (.int .i64 y5 : Value); clear kz hB hne hge; go_simp; exact ⟨hF, trivial, trivial⟩
  · intro a W' vals hd hsz hT hF hv hP hS
    obtain ⟨v0, v1, rfl⟩ : ∃ v0 v1, vals = [v0, v1] := by
      match vals, hv with
      | [v0, v1], _ => exact ⟨v0, v1, rfl⟩
    have hS2 : SX w 2 ([.put 1 #[.int .i64 3, .int .i64 x1, .int .i64 x2, .string x3, .bool x4, .int .i64 x5], .put 0 #[.int .i64 3, .int .i64 y1, .int .i64 y2, .string y3, .bool y4, .int .i64 y5]] : List Stp) [v0, v1] ([(w.heap.size + 1, 32, #[.int .i64 k', .int .i64 m', .int .i64 s', .string t', .bool b', .int .i64 e']), (w.heap.size, 32, #[.int .i64 k, .int .i64 m, .int .i64 s, .string t, .bool b, .int .i64 e])] : List (Nat × TypeId × Array Value)) W' := hS; clear hS; have hB0 := hS2; have hB : SB w 2 ([(w.heap.size + 1, 32, #[.int .i64 3, .int .i64 y1, .int .i64 y2, .string y3, .bool y4, .int .i64 y5]), (w.heap.size, 32, #[.int .i64 3, .int .i64 x1, .int .i64 x2, .string x3, .bool x4, .int .i64 x5])] : List (Nat × TypeId × Array Value)) W' := hB0; clear hB0; have e2 : a.tmps.getD 2 undef = .pointer (some ⟨w.heap.size, 0, none⟩) := hT 2 (by simp); have e3 : a.tmps.getD 3 undef = .pointer (some ⟨w.heap.size + 1, 0, none⟩) := hT 3 (by simp); clear hT hF hP; rw [act_lit 53 a hd hsz]; simp only [List.range, List.range.loop, List.map, e2, e3]; clear hd hsz e2 e3; have ky := hB.box (i := 0) rfl; have cy0 := ky.cell 0; have cy1 := ky.cell 1; have cy2 := ky.cell 2; have cy3 := ky.cell 3; have cy4 := ky.cell 4; have cy5 := ky.cell 5; clear ky; have kx := hB.box (i := 1) rfl; have cx0 := kx.cell 0; have cx1 := kx.cell 1; have cx2 := kx.cell 2; have cx3 := kx.cell 3; have cx4 := kx.cell 4; have cx5 := kx.cell 5; clear kx; have HB2 := Lib.hid hB; clear hB HB HX HY
    go_wp2_with fail
    clear cx0 cx1 cx2 cx3 cx4 cx5 cy0 cy1 cy2 cy3 cy4 cy5
    refine wp_region_phases (S := (fun vals W => SX w 2 ([] : List Stp) vals ([(w.heap.size + 1, 32, #[.int .i64 3, .int .i64 y1, .int .i64 y2, .string y3, .bool y4, .int .i64 y5]), (w.heap.size, 32, #[.int .i64 3, .int .i64 x1, .int .i64 x2, .string x3, .bool x4, .int .i64 x5])] : List (Nat × TypeId × Array Value)) W)) (E := (fun _ _ => True)) [] [(2, Is (.pointer (some ⟨w.heap.size, 0, none⟩))), (3, Is (.pointer (some ⟨w.heap.size + 1, 0, none⟩)))] [(39, Is (.pointer (some ⟨w.heap.size, 4, none⟩))), (40, Is (.bool x4)), (41, Is (.int .i64 r1)), (42, Is (.pointer (some ⟨w.heap.size + 1, 4, none⟩))), (43, Is (.bool y4)), (44, Is (.int .i64 r2)), (45, Is (.int .i64 C)), (4, Is (.int .i64 C))]
      [.op [2] none, .op [39] none, .op [40] none, .op [3] none, .op [42] none, .op [43] none, .op [41, 44] none, .op [45] none] (by as_aux_lemma => kernel_rfl) ?_ ?_ ?_ ?_ ?_ ⟨stable_is _ _, stable_is _ _, stable_is _ _, stable_is _ _, stable_is _ _, stable_is _ _, stable_is _ _, stable_is _ _, stable_is _ _, stable_is _ _, trivial⟩ ?_ (HB2.out.drew) ?_ ?_
    · as_aux_lemma => kernel_rfl
    · as_aux_lemma => kernel_rfl
    · as_aux_lemma => kernel_rfl
    · as_aux_lemma => kernel_rfl
    · as_aux_lemma => kernel_rfl
    · exact ⟨rfl, rfl, trivial⟩
    · refine ⟨?_, ?_, ?_, ?_, ?_, ?_, ?_, ?_, trivial⟩
      · as_aux_lemma => intro vals a W hS hL; have e2 : a.tmps.getD 2 undef = .pointer (some ⟨w.heap.size, 0, none⟩) := hL.1; clear hL; go_simp; exact ⟨dstY (by rfl), hS, trivial⟩
      · as_aux_lemma => intro vals a W hS hL; have e39 : a.tmps.getD 39 undef = .pointer (some ⟨w.heap.size, 4, none⟩) := hL.1; clear hL; have kb : Bk W (w.heap.size) 32 #[.int .i64 3, .int .i64 x1, .int .i64 x2, .string x3, .bool x4, .int .i64 x5] := hS.bk 1 rfl rfl; have f4 := kb.cell 4; clear kb; go_simp; exact ⟨dstY (by rfl), hS, trivial⟩
      · as_aux_lemma => intro vals a W hS hL; have e40 : a.tmps.getD 40 undef = .bool x4 := hL.1; clear hL; go_simp; refine (H1.out W).mono ?_; rintro e W' ⟨rfl, rfl⟩; exact ⟨_, rfl, dstY (by rfl), hS, trivial⟩
      · as_aux_lemma => intro vals a W hS hL; have e3 : a.tmps.getD 3 undef = .pointer (some ⟨w.heap.size + 1, 0, none⟩) := hL.1; clear hL; go_simp; exact ⟨dstY (by rfl), hS, trivial⟩
      · as_aux_lemma => intro vals a W hS hL; have e42 : a.tmps.getD 42 undef = .pointer (some ⟨w.heap.size + 1, 4, none⟩) := hL.1; clear hL; have kb : Bk W (w.heap.size + 1) 32 #[.int .i64 3, .int .i64 y1, .int .i64 y2, .string y3, .bool y4, .int .i64 y5] := hS.bk 0 rfl rfl; have f4 := kb.cell 4; clear kb; go_simp; exact ⟨dstY (by rfl), hS, trivial⟩
      · as_aux_lemma => intro vals a W hS hL; have e43 : a.tmps.getD 43 undef = .bool y4 := hL.1; clear hL; go_simp; refine (H2.out W).mono ?_; rintro e W' ⟨rfl, rfl⟩; exact ⟨_, rfl, dstY (by rfl), hS, trivial⟩
      · as_aux_lemma => intro vals a W hS hL; have e41 : a.tmps.getD 41 undef = .int .i64 r1 := hL.1; have e44 : a.tmps.getD 44 undef = .int .i64 r2 := hL.2.1; clear hL; go_simp; refine (HC.out W).mono ?_; rintro e W' ⟨rfl, rfl⟩; exact ⟨_, rfl, dstY (by rfl), hS, trivial⟩
      · as_aux_lemma => intro vals a W hS hL; have e45 : a.tmps.getD 45 undef = .int .i64 C := hL.1; clear hL; go_simp; exact ⟨dstY (by rfl), hS, trivial⟩
    · intro a W' vals hd hsz hT hF hv hP hS; obtain rfl : vals = [] := List.eq_nil_of_length_eq_zero hv; have hS2 : SX w 2 ([] : List Stp) [] ([(w.heap.size + 1, 32, #[.int .i64 3, .int .i64 y1, .int .i64 y2, .string y3, .bool y4, .int .i64 y5]), (w.heap.size, 32, #[.int .i64 3, .int .i64 x1, .int .i64 x2, .string x3, .bool x4, .int .i64 x5])] : List (Nat × TypeId × Array Value)) W' := hS; clear hS; have hB0 := hS2; have hB : SB w 2 ([(w.heap.size + 1, 32, #[.int .i64 3, .int .i64 y1, .int .i64 y2, .string y3, .bool y4, .int .i64 y5]), (w.heap.size, 32, #[.int .i64 3, .int .i64 x1, .int .i64 x2, .string x3, .bool x4, .int .i64 x5])] : List (Nat × TypeId × Array Value)) W' := hB0; clear hB0; have e4 : a.tmps.getD 4 undef = .int .i64 C := hT 4 (by simp); clear hT hF hP; go_wp2; refine bodyPost_ret (v := .int .i64 C) ?_ hd ⟨rfl, hB.bel⟩; rw [Array.getD_eq_getD_getElem?] at e4; simp [results, Tryz.results27, go_sem, e4]
end Go.Proofs.YtngkolcpbgibcaaGreatDoor
