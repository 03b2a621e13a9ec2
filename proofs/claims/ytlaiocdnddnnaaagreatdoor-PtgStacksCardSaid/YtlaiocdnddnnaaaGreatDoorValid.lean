/- Texts, plainly: runes of bytes, units of runes, units as a text. No condition; no model. -/
/- str.Units, str.Narrow, str.Size by their contracts. Condition: utf8.ValidString keeps its contract (its tables are laid); a text's length is one. -/
/- The library's contract of utf8.ValidString, laid at this program; its two tables. Condition: the tables are laid as their initialisers lay them. -/
import Derived.Lib.ValidLaws
import Derived.Test.YtlaiocdnddnnaaaGreatDoorProg
import Derived.Test.YtlaiocdnddnnaaaGreatDoorSettle
import Derived.Lib.RuneCount
import Derived.Laws.Runes
import Derived.Laws.RangeAny
import Derived.Shelf.Unicode.ValidAny
set_option linter.unusedVariables false
set_option linter.unusedSimpArgs false
namespace Go.Proofs.YtlaiocdnddnnaaaGreatDoor
open Go.Lib
def rnsGo : Nat → List UInt8 → List Int
  | 0, _ => []
  | n + 1, l => if l = [] then [] else ((decodeL l).1 : Int) :: rnsGo n (l.drop (decodeL l).2)
def rns (l : List UInt8) : List Int := rnsGo l.length l
theorem rnsGo_nil : ∀ n, rnsGo n [] = []
  | 0 => rfl
  | _ + 1 => by simp [rnsGo]
theorem rnsGo_fuel : ∀ (n m : Nat) (l : List UInt8), l.length ≤ n → l.length ≤ m → rnsGo n l = rnsGo m l
  | 0, m, l, hn, _ => by
    have : l = [] := List.eq_nil_of_length_eq_zero (by omega); subst this; rw [rnsGo_nil, rnsGo_nil]
  | n + 1, 0, l, _, hm => by
    have : l = [] := List.eq_nil_of_length_eq_zero (by omega); subst this; rw [rnsGo_nil, rnsGo_nil]
  | n + 1, m + 1, l, hn, hm => by
    by_cases hne : l = []
    · subst hne; rw [rnsGo_nil, rnsGo_nil]
    · have hw := decodeL_width l; have hl : 0 < l.length := List.length_pos_iff.2 hne; simp only [rnsGo, if_neg hne]; rw [rnsGo_fuel n m _ (by rw [List.length_drop]; omega) (by rw [List.length_drop]; omega)]
theorem rns_step (l : List UInt8) (hne : l ≠ []) : rns l = ((decodeL l).1 : Int) :: rns (l.drop (decodeL l).2) := by
  have hw := decodeL_width l; have hl : 0 < l.length := List.length_pos_iff.2 hne; unfold rns; obtain ⟨n, hn⟩ : ∃ n, l.length = n + 1 := ⟨l.length - 1, by omega⟩
  rw [hn]; simp only [rnsGo, if_neg hne]; rw [rnsGo_fuel n _ _ (by rw [List.length_drop]; omega) (Nat.le_refl _)]
def uni (r : Int) : List Int := if r < 65536 then [r] else [55296 + (r - 65536) / 1024, 56320 + r % 1024]
def unis (l : List UInt8) : List Int := (rns l).flatMap uni
def unN (l : List UInt8) : Nat := (unis l).length
def narB (l : List UInt8) : Bool := (rns l).all fun r => decide (r < 256)
def uE (l : List UInt8) : Int := if validD l = false then 2 else if 1000 < unN l then 4 else 0
def uV (l : List UInt8) : Int := if uE l = 0 then unN l else 0
def szV (l : List UInt8) : Int := if uE l = 0 then (if narB l = true then 3 + (unN l : Int) else 3 + 2 * (unN l : Int)) else 0
theorem uE_valid {l : List UInt8} (h : uE l = 0) : validD l = true ∧ unN l ≤ 1000 := by
  unfold uE at h
  by_cases hv : validD l = false
  · rw [if_pos hv] at h; cases h
  · rw [if_neg hv] at h
    by_cases h1 : 1000 < unN l
    · rw [if_pos h1] at h; cases h
    · exact ⟨by simpa using hv, by omega⟩
theorem drop_ne (s : ByteArray) (pos : Nat) (h : pos < s.size) : s.data.toList.drop pos ≠ [] := by
  have hlen : s.data.toList.length = s.size := by simp
  intro hh; have := congrArg List.length hh; rw [List.length_drop, List.length_nil] at this; omega
theorem decode_drop (s : ByteArray) (pos : Nat) : decodeL (s.data.toList.drop pos) = Utf8.decode s pos := by
  rw [decodeL_N, decode_N]; simp [List.length_drop]
theorem decode_le (s : ByteArray) (pos : Nat) (h : pos < s.size) : pos + (Utf8.decode s pos).2 ≤ s.size := by
  have := decodeL_le _ (drop_ne s pos h); rw [decode_drop, List.length_drop] at this; simp at this; omega
theorem rns_at (s : ByteArray) (pos : Nat) (h : pos < s.size) : rns (s.data.toList.drop pos) = ((Utf8.decode s pos).1 : Int) :: rns (s.data.toList.drop (pos + (Utf8.decode s pos).2)) := by
  have hne := drop_ne s pos h; have hd := decode_drop s pos; rw [rns_step _ hne, hd, List.drop_drop]
theorem rns_end (s : ByteArray) (pos : Nat) (h : ¬ pos < s.size) : rns (s.data.toList.drop pos) = [] := by
  have hlen : s.data.toList.length = s.size := by simp
  rw [List.drop_eq_nil_of_le (by omega)]; rfl
end Go.Proofs.YtlaiocdnddnnaaaGreatDoor
namespace Go.Proofs.YtlaiocdnddnnaaaGreatDoor
open Go.RowKit Go.Lib
def Val (w : World) : Prop := ∀ (s : ByteArray) (W : World), s.size ≤ 140737488355328 → Below w.heap.size w W →
  Calls Tryz.prog 112 #[.string s] W fun e w' => e = .returned (.bool (validD s.data.toList)) ∧ Below W.heap.size W w'
theorem Val.below {w w' : World} (h : Val w) (hb : Below w.heap.size w w') : Val w' := fun s W hs hb' =>
  h s W hs (hb.trans (hb'.mono hb.size))
theorem uni_len (r : Int) : (uni r).length = if 65536 ≤ r then 2 else 1 := by
  unfold uni
  by_cases h : r < 65536
  · rw [if_pos h, if_neg (by omega)]; rfl
  · rw [if_neg h, if_pos (by omega)]; rfl
theorem unN_at (s : ByteArray) (pos : Nat) (h : pos < s.size) : unN (s.data.toList.drop pos) = (if 65536 ≤ ((Utf8.decode s pos).1 : Int) then 2 else 1) + unN (s.data.toList.drop (pos + (Utf8.decode s pos).2)) := by
  unfold unN unis; rw [rns_at s pos h, List.flatMap_cons, List.length_append, uni_len]
theorem unN_end (s : ByteArray) (pos : Nat) (h : ¬ pos < s.size) : unN (s.data.toList.drop pos) = 0 := by
  unfold unN unis; rw [rns_end s pos h]; rfl
set_option maxHeartbeats 4000000 in
set_option maxRecDepth 100000 in
theorem units_any {w : World} (HV : Val w) (s : ByteArray) (hs : s.size ≤ 140737488355328) :
    Calls Tryz.prog 93 #[.string s] w fun e w' => e = .returned (.tuple #[.int .i64 (uV s.data.toList), .int .i64 (uE s.data.toList)]) ∧ Below w.heap.size w w' := by
  have HC := HV s w hs (Below.refl _ _); clear HV
  cases hv : validD s.data.toList
  · have e1 : uE s.data.toList = 2 := by unfold uE; rw [if_pos hv]
    have e2 : uV s.data.toList = 0 := by unfold uV; rw [e1]; rfl
    rw [e1, e2]; rw [hv] at HC; clear hv e1 e2; go_enter Tryz.func93, Tryz.ntmps93
    go_wp2_with fail
    refine HC.mono ?_; rintro e w1 ⟨rfl, hb1⟩; go_wp2
    go_ret2
    exact ⟨rfl, hb1⟩
  · rw [hv] at HC; have e1 : uE s.data.toList = if 1000 < unN s.data.toList then 4 else 0 := by unfold uE; rw [if_neg (by rw [hv]; decide)]
    have e2 : uV s.data.toList = if 1000 < unN s.data.toList then 0 else (unN s.data.toList : Int) := by
      unfold uV; rw [e1]
      by_cases h : 1000 < unN s.data.toList
      · rw [if_pos h, if_pos h]; rfl
      · rw [if_neg h, if_neg h]; rfl
    rw [e1, e2]; clear hv e1 e2; obtain ⟨N, hN⟩ : ∃ N, unN s.data.toList = N := ⟨_, rfl⟩
    have H0 := Lib.hid hN; rw [hN]; clear hN; obtain ⟨V, hV⟩ : ∃ V, (if 1000 < N then 0 else (N : Int)) = V := ⟨_, rfl⟩
    obtain ⟨E, hE⟩ : ∃ E : Int, (if 1000 < N then 4 else 0) = E := ⟨_, rfl⟩
    rw [hV, hE]; have HV := Lib.hid hV; have HE := Lib.hid hE; clear hV hE; go_enter Tryz.func93, Tryz.ntmps93
    go_wp2_with fail
    refine HC.mono ?_; rintro e w1 ⟨rfl, hb1⟩; clear HC; go_wp2
    go_loopw [4] (fun n w' => ∃ pos acc : Nat, w' = w1.iter s pos ∧ n = .int .i64 acc ∧ acc + unN (s.data.toList.drop pos) = N ∧ acc ≤ 2 * pos ∧ pos ≤ s.size) (fun _ w' => s.size - w'.iterPos w1.heap.size)
    case atStart => exact ⟨0, 0, rfl, rfl, by rw [List.drop_zero, H0.out]; omega, by omega, by omega⟩
    case round =>
      obtain ⟨pos, acc, rfl, rfl, hc, ha, hp0⟩ := hrel
      by_cases hp : pos < s.size
      · have hnx : ∀ ty, (Instr.next (.pointer (some ⟨w1.heap.size, 0, none⟩)) true ty).run Tryz.prog (w1.iter s pos) = _ := fun ty => run_next_any w1 s pos ty hp; have hwd := Lib.decode_width_pos s pos hp; have hst := Lib.hid (unN_at s pos hp); have hle : pos + (Utf8.decode s pos).2 ≤ s.size := decode_le s pos hp; have HC := Lib.hid hc; clear hc; generalize hr : ((Utf8.decode s pos).1 : Int) = r at *; generalize hk : (Utf8.decode s pos).2 = k at *
        by_cases hbig : 65536 ≤ r
        · go_wp2
          go_roundw
          case rel =>
            have h1 := HC.out; have h2 := hst.out; rw [if_pos hbig] at h2; exact ⟨pos + k, acc + 2, rfl, by go_num, by omega, by omega, hle⟩
          case measure =>
            simp; omega
        · go_wp2
          go_roundw
          case rel =>
            have h1 := HC.out; have h2 := hst.out; rw [if_neg hbig] at h2; exact ⟨pos + k, acc + 1, rfl, by go_num, by omega, by omega, hle⟩
          case measure =>
            simp; omega
      · have hnx : ∀ ty, (Instr.next (.pointer (some ⟨w1.heap.size, 0, none⟩)) true ty).run Tryz.prog (w1.iter s pos) = _ := fun ty => run_next_end w1 s pos ty hp; have hN : acc = N := by rw [unN_end s pos hp] at hc; omega
        clear hc H0; subst hN; have hbF : Below w.heap.size w (w1.iter s pos) := hb1.alloc hb1.size _
        by_cases hl : 1000 < acc
        · have hl' : (1000 : Int) < (acc : Int) := by omega
          have hV := HV.out; have hE := HE.out; rw [if_pos hl] at hV hE; subst hV hE; clear HV HE; go_wp2
          go_ret2
          exact ⟨rfl, hbF⟩
        · have hl' : ¬ (1000 : Int) < (acc : Int) := by omega
          have hV := HV.out; have hE := HE.out; rw [if_neg hl] at hV hE; subst hV hE; clear HV HE; go_wp2
          go_ret2
          exact ⟨rfl, hbF⟩
theorem narB_at (s : ByteArray) (pos : Nat) (h : pos < s.size) : narB (s.data.toList.drop pos) = (decide (((Utf8.decode s pos).1 : Int) < 256) && narB (s.data.toList.drop (pos + (Utf8.decode s pos).2))) := by
  unfold narB; rw [rns_at s pos h, List.all_cons]
theorem narB_end (s : ByteArray) (pos : Nat) (h : ¬ pos < s.size) : narB (s.data.toList.drop pos) = true := by
  unfold narB; rw [rns_end s pos h]; rfl
set_option maxHeartbeats 4000000 in
set_option maxRecDepth 100000 in
theorem narrow_any {w : World} (s : ByteArray) (hs : s.size ≤ 140737488355328) :
    Calls Tryz.prog 96 #[.string s] w fun e w' => e = .returned (.bool (narB s.data.toList)) ∧ Below w.heap.size w w' := by
  obtain ⟨N, hN⟩ : ∃ N, narB s.data.toList = N := ⟨_, rfl⟩
  have H0 := Lib.hid hN; rw [hN]; clear hN; go_enter Tryz.func96, Tryz.ntmps96; go_wp2
  go_loopw [] (fun w' => ∃ pos : Nat, w' = w.iter s pos ∧ narB (s.data.toList.drop pos) = N ∧ pos ≤ s.size) (fun w' => s.size - w'.iterPos w.heap.size)
  case atStart => exact ⟨0, rfl, by rw [List.drop_zero, H0.out], by omega⟩
  case round =>
    obtain ⟨pos, rfl, hc, hp0⟩ := hrel; have hbF : ∀ p, Below w.heap.size w (w.iter s p) := fun p => (Below.refl _ _).alloc (Nat.le_refl _) _
    by_cases hp : pos < s.size
    · have hnx : ∀ ty, (Instr.next (.pointer (some ⟨w.heap.size, 0, none⟩)) true ty).run Tryz.prog (w.iter s pos) = _ := fun ty => run_next_any w s pos ty hp; have hwd := Lib.decode_width_pos s pos hp; have hst := Lib.hid (narB_at s pos hp); have hle : pos + (Utf8.decode s pos).2 ≤ s.size := decode_le s pos hp; have HC := Lib.hid hc; clear hc; generalize hr : ((Utf8.decode s pos).1 : Int) = r at *; generalize hk : (Utf8.decode s pos).2 = k at *
      by_cases hbig : 256 ≤ r
      · have hN : N = false := by
          rw [← HC.out, hst.out, decide_eq_false (by omega), Bool.false_and]
        subst hN; go_wp2; go_ret; exact ⟨rfl, hbF _⟩
      · go_wp2
        go_roundw
        case rel =>
          have h1 := HC.out; have h2 := hst.out; rw [decide_eq_true (by omega), Bool.true_and] at h2; exact ⟨pos + k, rfl, by rw [← h2]; exact h1, hle⟩
        case measure =>
          simp; omega
    · have hnx : ∀ ty, (Instr.next (.pointer (some ⟨w.heap.size, 0, none⟩)) true ty).run Tryz.prog (w.iter s pos) = _ := fun ty => run_next_end w s pos ty hp; rw [narB_end s pos hp] at hc; subst hc; clear H0; go_wp2; go_ret; exact ⟨rfl, hbF _⟩
theorem unN_le2 (s : ByteArray) (h : uE s.data.toList = 0) : unN s.data.toList ≤ 1000 := (uE_valid h).2
set_option maxHeartbeats 4000000 in
set_option maxRecDepth 100000 in
theorem size_any {w : World} (HV : Val w) (s : ByteArray) (hs : s.size ≤ 140737488355328) :
    Calls Tryz.prog 94 #[.string s] w fun e w' => e = .returned (.int .i64 (szV s.data.toList)) ∧ Below w.heap.size w w' := by
  have HU := Lib.hid (units_any HV s hs); have HN := Lib.hid (fun W : World => narrow_any (w := W) s hs)
  by_cases h0 : uE s.data.toList = 0
  · have hle := unN_le2 s h0; have e1 : uV s.data.toList = (unN s.data.toList : Int) := by unfold uV; rw [if_pos h0]
    have hV := HU.out; rw [e1, h0] at hV; clear HU; have HU := Lib.hid hV; clear hV e1
    cases hn : narB s.data.toList
    · have e2 : szV s.data.toList = 3 + 2 * (unN s.data.toList : Int) := by unfold szV; rw [if_pos h0, if_neg (by rw [hn]; decide)]
      have hN := HN.out; rw [hn] at hN; clear HN; have HN := Lib.hid hN; clear hN; rw [e2]; clear e2 hn h0; generalize unN s.data.toList = K at *; go_enter Tryz.func94, Tryz.ntmps94
      go_wp2_with fail
      refine HU.out.mono ?_; rintro e w1 ⟨rfl, hb1⟩
      go_wp2_with fail
      refine (HN.out w1).mono ?_; rintro e w2 ⟨rfl, hb2⟩; have hb := hb1.trans (hb2.mono hb1.size); go_wp2; go_ret; exact ⟨rfl, hb⟩
    · have e2 : szV s.data.toList = 3 + (unN s.data.toList : Int) := by unfold szV; rw [if_pos h0, if_pos hn]
      have hN := HN.out; rw [hn] at hN; clear HN; have HN := Lib.hid hN; clear hN; rw [e2]; clear e2 hn h0; generalize unN s.data.toList = K at *; go_enter Tryz.func94, Tryz.ntmps94
      go_wp2_with fail
      refine HU.out.mono ?_; rintro e w1 ⟨rfl, hb1⟩
      go_wp2_with fail
      refine (HN.out w1).mono ?_; rintro e w2 ⟨rfl, hb2⟩; have hb := hb1.trans (hb2.mono hb1.size); go_wp2; go_ret; exact ⟨rfl, hb⟩
  · have e1 : uV s.data.toList = 0 := by unfold uV; rw [if_neg h0]
    have e2 : szV s.data.toList = 0 := by unfold szV; rw [if_neg h0]
    have hV := HU.out; rw [e1] at hV; clear HU HN; have HU := Lib.hid hV; clear hV e1; rw [e2]; clear e2; generalize uE s.data.toList = E at *; go_enter Tryz.func94, Tryz.ntmps94
    go_wp2_with fail
    refine HU.out.mono ?_; rintro e w1 ⟨rfl, hb1⟩; go_wp2; go_ret; exact ⟨rfl, hb1⟩
end Go.Proofs.YtlaiocdnddnnaaaGreatDoor
namespace Go.Proofs
open Go.Shelf Go.Lib
def Tryz.laysV_ren : Ren := ⟨fun | 196 => 112 | 259 => 129 | n => n, fun | 0 => 0 | 3 => 3 | 4 => 4 | 5 => 5 | 9 => 9 | 12 => 12 | 46 => 134 | 53 => 107 | 119 => 193 | 138 => 195 | 139 => 196 | n => n, fun | 3 => 0 | 4 => 1 | n => n⟩
theorem Tryz.laysV : Lays.n196 Tryz.prog Tryz.laysV_ren := {
  mixed := by kernel_rfl
  f196 := Tryz.func112.trans (congrArg some (by kernel_rfl))
  f259 := Tryz.func129.trans (congrArg some (by kernel_rfl))
  t0 := Tryz.underlying0
  a0 := Tryz.isAgg0
  z0 := Tryz.sizeOf0
  v0 := Tryz.zeroValue0
  t3 := Tryz.underlying3
  a3 := Tryz.isAgg3
  z3 := Tryz.sizeOf3
  v3 := Tryz.zeroValue3
  t4 := Tryz.underlying4
  a4 := Tryz.isAgg4
  z4 := Tryz.sizeOf4
  v4 := Tryz.zeroValue4
  t5 := Tryz.underlying5
  a5 := Tryz.isAgg5
  z5 := Tryz.sizeOf5
  v5 := Tryz.zeroValue5
  t9 := Tryz.underlying9
  a9 := Tryz.isAgg9
  z9 := Tryz.sizeOf9
  v9 := Tryz.zeroValue9
  t12 := Tryz.underlying12
  a12 := Tryz.isAgg12
  z12 := Tryz.sizeOf12
  v12 := Tryz.zeroValue12
  t46 := Tryz.underlying134
  a46 := Tryz.isAgg134
  z46 := Tryz.sizeOf134
  v46 := Tryz.zeroValue134
  t53 := Tryz.underlying107
  a53 := Tryz.isAgg107
  z53 := Tryz.sizeOf107
  v53 := Tryz.zeroValue107
  t119 := Tryz.underlying193
  a119 := Tryz.isAgg193
  z119 := Tryz.sizeOf193
  t138 := Tryz.underlying195
  a138 := Tryz.isAgg195
  z138 := Tryz.sizeOf195
  v138 := Tryz.zeroValue195
  t139 := Tryz.underlying196
  a139 := Tryz.isAgg196
  z139 := Tryz.sizeOf196
  v139 := Tryz.zeroValue196
  g3 := by kernel_rfl
  g4 := by kernel_rfl }
namespace YtlaiocdnddnnaaaGreatDoor
def Tabs (w : World) : Prop := Lib.Utf8Tabs (Tryz.laysV_ren.g 3) (Tryz.laysV_ren.g 4) w
theorem val_of {w : World} (h : Tabs w) : Val w := fun s W hz hb =>
  Any.utf8_ValidString Tryz.laysV s W (by omega) (Utf8Tabs_below h hb)
end YtlaiocdnddnnaaaGreatDoor
end Go.Proofs
