/- str.Units, str.Narrow, str.Size by their contracts. Condition: utf8.ValidString keeps its contract (its tables are laid); a text's length is one. -/
import Derived.Test.YtkjiokepihmpfaaDoorProg
import Derived.Test.YtkjiokepihmpfaaDoorMem
import Derived.Test.YtkjiokepihmpfaaDoorStr0
import Derived.Lib.RuneCount
import Derived.Laws.Runes
import Derived.Laws.RangeAny
set_option linter.unusedVariables false
set_option linter.unusedSimpArgs false
namespace Go.Proofs.YtkjiokepihmpfaaDoor
open Go.RowKit Go.Lib

/-- utf8.ValidString tells what it promises, from world w on. -/
def Val (w : World) : Prop := ∀ (s : ByteArray) (W : World), s.size ≤ 140737488355328 → Below w.heap.size w W →
  Calls Tryd.prog 66 #[.string s] W fun e w' => e = .returned (.bool (validD s.data.toList)) ∧ Below W.heap.size W w'
theorem Val.below {w w' : World} (h : Val w) (hb : Below w.heap.size w w') : Val w' := fun s W hs hb' =>
  h s W hs (hb.trans (hb'.mono hb.size))

theorem uni_len (r : Int) : (uni r).length = if 65536 ≤ r then 2 else 1 := by
  unfold uni
  by_cases h : r < 65536
  · rw [if_pos h, if_neg (by omega)]; rfl
  · rw [if_neg h, if_pos (by omega)]; rfl
theorem unN_at (s : ByteArray) (pos : Nat) (h : pos < s.size) : unN (s.data.toList.drop pos) = (if 65536 ≤ ((Utf8.decode s pos).1 : Int) then 2 else 1) + unN (s.data.toList.drop (pos + (Utf8.decode s pos).2)) := by
  unfold unN unis
  rw [rns_at s pos h, List.flatMap_cons, List.length_append, uni_len]
theorem unN_end (s : ByteArray) (pos : Nat) (h : ¬ pos < s.size) : unN (s.data.toList.drop pos) = 0 := by
  unfold unN unis
  rw [rns_end s pos h]
  rfl

set_option maxHeartbeats 4000000 in
set_option maxRecDepth 100000 in
theorem units_any {w : World} (HV : Val w) (s : ByteArray) (hs : s.size ≤ 140737488355328) :
    Calls Tryd.prog 37 #[.string s] w fun e w' => e = .returned (.tuple #[.int .i64 (uV s.data.toList), .int .i64 (uE s.data.toList)]) ∧ Below w.heap.size w w' := by
  have HC := HV s w hs (Below.refl _ _)
  clear HV
  cases hv : validD s.data.toList
  · have e1 : uE s.data.toList = 2 := by unfold uE; rw [if_pos hv]
    have e2 : uV s.data.toList = 0 := by unfold uV; rw [e1]; rfl
    rw [e1, e2]
    rw [hv] at HC
    clear hv e1 e2
    go_enter Tryd.func37, Tryd.ntmps37
    go_wp2_with fail
    refine HC.mono ?_
    rintro e w1 ⟨rfl, hb1⟩
    go_wp2
    go_ret2
    exact ⟨rfl, hb1⟩
  · rw [hv] at HC
    have e1 : uE s.data.toList = if 1000 < unN s.data.toList then 4 else 0 := by unfold uE; rw [if_neg (by rw [hv]; decide)]
    have e2 : uV s.data.toList = if 1000 < unN s.data.toList then 0 else (unN s.data.toList : Int) := by
      unfold uV; rw [e1]
      by_cases h : 1000 < unN s.data.toList
      · rw [if_pos h, if_pos h]; rfl
      · rw [if_neg h, if_neg h]; rfl
    rw [e1, e2]
    clear hv e1 e2
    obtain ⟨N, hN⟩ : ∃ N, unN s.data.toList = N := ⟨_, rfl⟩
    have H0 := Lib.hid hN
    rw [hN]
    clear hN
    obtain ⟨V, hV⟩ : ∃ V, (if 1000 < N then 0 else (N : Int)) = V := ⟨_, rfl⟩
    obtain ⟨E, hE⟩ : ∃ E : Int, (if 1000 < N then 4 else 0) = E := ⟨_, rfl⟩
    rw [hV, hE]
    have HV := Lib.hid hV
    have HE := Lib.hid hE
    clear hV hE
    go_enter Tryd.func37, Tryd.ntmps37
    go_wp2_with fail
    refine HC.mono ?_
    rintro e w1 ⟨rfl, hb1⟩
    clear HC
    go_wp2
    go_loopw [4] (fun n w' => ∃ pos acc : Nat, w' = w1.iter s pos ∧ n = .int .i64 acc ∧ acc + unN (s.data.toList.drop pos) = N ∧ acc ≤ 2 * pos ∧ pos ≤ s.size) (fun _ w' => s.size - w'.iterPos w1.heap.size)
    case atStart => exact ⟨0, 0, rfl, rfl, by rw [List.drop_zero, H0.out]; omega, by omega, by omega⟩
    case round =>
      obtain ⟨pos, acc, rfl, rfl, hc, ha, hp0⟩ := hrel
      by_cases hp : pos < s.size
      · have hnx : ∀ ty, (Instr.next (.pointer (some ⟨w1.heap.size, 0, none⟩)) true ty).run Tryd.prog (w1.iter s pos) = _ := fun ty => run_next_any w1 s pos ty hp
        have hwd := Lib.decode_width_pos s pos hp
        have hst := Lib.hid (unN_at s pos hp)
        have hle : pos + (Utf8.decode s pos).2 ≤ s.size := decode_le s pos hp
        have HC := Lib.hid hc
        clear hc
        generalize hr : ((Utf8.decode s pos).1 : Int) = r at *
        generalize hk : (Utf8.decode s pos).2 = k at *
        by_cases hbig : 65536 ≤ r
        · go_wp2
          go_roundw
          case rel =>
            have h1 := HC.out
            have h2 := hst.out
            rw [if_pos hbig] at h2
            exact ⟨pos + k, acc + 2, rfl, by go_num, by omega, by omega, hle⟩
          case measure =>
            simp
            omega
        · go_wp2
          go_roundw
          case rel =>
            have h1 := HC.out
            have h2 := hst.out
            rw [if_neg hbig] at h2
            exact ⟨pos + k, acc + 1, rfl, by go_num, by omega, by omega, hle⟩
          case measure =>
            simp
            omega
      · have hnx : ∀ ty, (Instr.next (.pointer (some ⟨w1.heap.size, 0, none⟩)) true ty).run Tryd.prog (w1.iter s pos) = _ := fun ty => run_next_end w1 s pos ty hp
        have hN : acc = N := by rw [unN_end s pos hp] at hc; omega
        clear hc H0
        subst hN
        have hbF : Below w.heap.size w (w1.iter s pos) := hb1.alloc hb1.size _
        by_cases hl : 1000 < acc
        · have hl' : (1000 : Int) < (acc : Int) := by omega
          have hV := HV.out
          have hE := HE.out
          rw [if_pos hl] at hV hE
          subst hV hE
          clear HV HE
          go_wp2
          go_ret2
          exact ⟨rfl, hbF⟩
        · have hl' : ¬ (1000 : Int) < (acc : Int) := by omega
          have hV := HV.out
          have hE := HE.out
          rw [if_neg hl] at hV hE
          subst hV hE
          clear HV HE
          go_wp2
          go_ret2
          exact ⟨rfl, hbF⟩

theorem narB_at (s : ByteArray) (pos : Nat) (h : pos < s.size) : narB (s.data.toList.drop pos) = (decide (((Utf8.decode s pos).1 : Int) < 256) && narB (s.data.toList.drop (pos + (Utf8.decode s pos).2))) := by
  unfold narB
  rw [rns_at s pos h, List.all_cons]
theorem narB_end (s : ByteArray) (pos : Nat) (h : ¬ pos < s.size) : narB (s.data.toList.drop pos) = true := by
  unfold narB
  rw [rns_end s pos h]
  rfl

theorem unN_le2 (s : ByteArray) (h : uE s.data.toList = 0) : unN s.data.toList ≤ 1000 := (uE_valid h).2
end Go.Proofs.YtkjiokepihmpfaaDoor
