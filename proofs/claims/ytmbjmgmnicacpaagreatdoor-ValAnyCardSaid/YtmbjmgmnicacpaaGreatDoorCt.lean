/- val.compareTexts by its contract: texts in order by their runes. Condition: the texts are not too long. -/
import Derived.Test.YtmbjmgmnicacpaaGreatDoorFm
import Derived.Test.YtmbjmgmnicacpaaGreatDoorUnits
import Derived.Laws.IdiomStrings
namespace Go.Proofs.YtmbjmgmnicacpaaGreatDoor
open Go.RowKit Go.Lib

def r32 (x : Int) : Value := .int .i32 x
theorem runes_list (s : ByteArray) : ∀ (bound i : Nat) (acc : Array Value), s.size - i ≤ bound → (Conv.runesFrom s bound i acc).toList = acc.toList ++ (rns (s.data.toList.drop i)).map r32
  | 0, i, acc, h => by rw [Conv.runesFrom, rns_end s i (by omega)]; simp
  | bound + 1, i, acc, h => by
    unfold Conv.runesFrom
    by_cases hi : i < s.size
    · rw [if_pos hi]
      have hw := Lib.decode_width_pos s i hi
      dsimp only
      rw [runes_list s bound _ _ (by omega), rns_at s i hi]
      simp [r32]
    · rw [if_neg hi, rns_end s i hi]
      simp

theorem cmp_ne {x y : Int} {a b : List Int} (h : ¬ x = y) : cmpR (x :: a) (y :: b) = cmp x y := by
  rw [cmpR]
  unfold cmp
  by_cases h1 : x < y
  · rw [if_pos h1, if_pos h1]
  · rw [if_neg h1, if_pos (by omega), if_neg h1, if_neg h]
theorem cmp_tail {a : List Int} {k : Nat} (h : k ≤ a.length) : cmpR [] (a.drop k) = cmp (k : Int) (a.length : Int) := by
  by_cases hk : k = a.length
  · subst hk
    rw [List.drop_length, cmpR]
    exact ((cmp_zero _ _).2 rfl).symm
  · rw [List.drop_eq_getElem_cons (by omega), cmpR]
    unfold cmp
    rw [if_pos (by omega)]

set_option maxHeartbeats 4000000 in
set_option maxRecDepth 100000 in
theorem compareTexts_any {w : World} (a b : ByteArray) (ha : a.size ≤ 140737488355328) (hb : b.size ≤ 70368744177664) :
    Calls Tryz.prog 41 #[.string a, .string b] w fun e w' => e = .returned (.int .i64 (cmpR (rns a.data.toList) (rns b.data.toList))) ∧ Below w.heap.size w w' := by
  have hn : (Conv.runesFrom b b.size 0 #[]).size ≤ b.size := by have := size_runesFrom b b.size 0 #[]; simpa using this
  have hcv := run_runes_of_string (P := Tryz.prog) w 9 112 21 b Tryz.underlying9 Tryz.underlying112 Tryz.underlying21 (by omega)
  have hl : (Conv.runesFrom b b.size 0 #[]).toList = (rns b.data.toList).map r32 := by rw [runes_list b b.size 0 #[] (by omega)]; simp
  have hsz : (Conv.runesFrom b b.size 0 #[]).size = (rns b.data.toList).length := by
    have := congrArg List.length hl
    simpa using this
  have hcell : ∀ i x, (rns b.data.toList)[i]? = some x → (w.drew.alloc (.cells (Conv.runesFrom b b.size 0 #[] ++ Array.replicate (grownCap w (Conv.runesFrom b b.size 0 #[]).size 0 21 - (Conv.runesFrom b b.size 0 #[]).size) (.int .i32 0)) 21)).cell? ⟨w.heap.size, i, none⟩ = some (.int .i32 x) := by
    intro i x hx
    have hi : i < (rns b.data.toList).length := (List.getElem?_eq_some_iff.1 hx).1
    have := World.cell?_alloc_new w.drew (Conv.runesFrom b b.size 0 #[] ++ Array.replicate (grownCap w (Conv.runesFrom b b.size 0 #[]).size 0 21 - (Conv.runesFrom b b.size 0 #[]).size) (.int .i32 0)) 21 i
    rw [show w.drew.heap.size = w.heap.size from rfl] at this
    rw [this, Array.getElem?_append_left (by omega), ← Array.getElem?_toList, hl, List.getElem?_map, hx]
    rfl
  have hbel : Below w.heap.size w (w.drew.alloc (.cells (Conv.runesFrom b b.size 0 #[] ++ Array.replicate (grownCap w (Conv.runesFrom b b.size 0 #[]).size 0 21 - (Conv.runesFrom b b.size 0 #[]).size) (.int .i32 0)) 21)) := ((Below.refl _ _).drew).alloc (Nat.le_refl _) _
  have hszw : (w.drew.alloc (.cells (Conv.runesFrom b b.size 0 #[] ++ Array.replicate (grownCap w (Conv.runesFrom b b.size 0 #[]).size 0 21 - (Conv.runesFrom b b.size 0 #[]).size) (.int .i32 0)) 21)).heap.size = w.heap.size + 1 := by simp
  generalize w.drew.alloc (.cells (Conv.runesFrom b b.size 0 #[] ++ Array.replicate (grownCap w (Conv.runesFrom b b.size 0 #[]).size 0 21 - (Conv.runesFrom b b.size 0 #[]).size) (.int .i32 0)) 21) = W1 at *
  rw [hsz] at hn
  generalize grownCap w (Conv.runesFrom b b.size 0 #[]).size 0 21 = cap at *
  rw [hsz] at hcv
  clear hl hsz
  have HB := Lib.hid hb
  have HZ := Lib.hid hszw
  clear hszw
  clear hb
  generalize hR : rns b.data.toList = R at *
  clear hR
  obtain ⟨C, hC⟩ : ∃ C, cmpR (rns a.data.toList) R = C := ⟨_, rfl⟩
  have H0 := Lib.hid hC
  rw [hC]
  clear hC
  obtain ⟨n, hn0⟩ : ∃ n, R.length = n := ⟨_, rfl⟩
  have HN := Lib.hid hn0
  rw [hn0] at hcv hn
  clear hn0
  have HC := Lib.hid hcell
  have HI := Lib.hid (fun (W : World) (x y : Int) => cmp_int (w := W) x y)
  have HU := Lib.hid (fun (W : World) (x y : Int) => cmp_rune (w := W) x y)
  clear hcell
  go_enter Tryz.func41, Tryz.ntmps41
  go_wp2
  clear hcv
  go_loopw [6] (fun q w' => ∃ pos k : Nat, w' = W1.iter a pos ∧ q = .int .i64 k ∧ k ≤ n ∧ pos ≤ a.size ∧ k ≤ pos ∧ Hid (cmpR (rns (a.data.toList.drop pos)) (R.drop k) = C)) (fun _ w' => a.size - w'.iterPos W1.heap.size)
  case atStart => exact ⟨0, 0, rfl, rfl, Nat.zero_le _, Nat.zero_le _, Nat.le_refl _, Lib.hid (by rw [List.drop_zero, List.drop_zero, H0.out])⟩
  case round =>
    obtain ⟨pos, k, rfl, rfl, hk, hp0, hkp, HS⟩ := hrel
    by_cases hp : pos < a.size
    · have hnx : ∀ ty, (Instr.next (.pointer (some ⟨W1.heap.size, 0, none⟩)) true ty).run Tryz.prog (W1.iter a pos) = _ := fun ty => run_next_any W1 a pos ty hp
      have hwd := Lib.decode_width_pos a pos hp
      have hle : pos + (Utf8.decode a pos).2 ≤ a.size := decode_le a pos hp
      have hst := Lib.hid (rns_at a pos hp)
      generalize ((Utf8.decode a pos).1 : Int) = r at *
      generalize (Utf8.decode a pos).2 = wd at *
      by_cases hkn : k = n
      · subst hkn
        obtain rfl : C = 1 := by
          have := HS.out
          rw [hst.out, show R.drop k = [] from List.drop_of_length_le (by rw [HN.out]; exact Nat.le_refl _)] at this
          exact this.symm
        have hbF : ∀ p, Below w.heap.size w (W1.iter a p) := fun p => hbel.alloc hbel.size _
        clear hst HS HC HI HU
        go_wp2
        go_ret
        exact ⟨rfl, hbF _⟩
      · have hkn' : ¬ (k : Int) = (n : Int) := by omega
        have hlt : (k : Int) < (n : Int) := by omega
        have hltn : k < n := by omega
        obtain ⟨x, hx⟩ : ∃ x, R[k]? = some x := ⟨_, List.getElem?_eq_getElem (by rw [HN.out]; exact hltn)⟩
        have hd : R.drop k = x :: R.drop (k + 1) := by
          have hkl : k < R.length := by rw [HN.out]; exact hltn
          rw [List.drop_eq_getElem_cons hkl]
          rw [List.getElem?_eq_getElem hkl] at hx
          injection hx with hx
          rw [hx]
        have HD := Lib.hid hd
        have hc0 := HC.out k x hx
        have hc1 : ∀ p, (W1.iter a p).cell? ⟨w.heap.size, k, none⟩ = some (.int .i32 x) := fun p => by
          rw [← hc0]
          exact (bcell ((Below.refl _ W1).alloc (Nat.le_refl _) _)).1 _ _ (by rw [HZ.out]; omega)
        clear hx hd hc0 hkn
        by_cases hrx : r = x
        · subst hrx
          go_wp2
          go_roundw
          case rel =>
            have := HS.out
            rw [hst.out, HD.out, cmpR_eq rfl] at this
            exact ⟨pos + wd, k + 1, rfl, by go_num, by omega, hle, by omega, Lib.hid this⟩
          case measure =>
            simp
            omega
        · have HV := Lib.hid (show cmp r x = C by
            rw [← HS.out, hst.out, HD.out, cmp_ne hrx])
          have hbF : ∀ p, Below w.heap.size w (W1.iter a p) := fun p => hbel.alloc hbel.size _
          clear hst HS HC HI HD
          go_wp2_with fail
          refine (HU.out _ _ _).mono ?_
          rintro e w2 ⟨rfl, rfl⟩
          rw [HV.out]
          go_wp2
          go_ret
          exact ⟨rfl, hbF _⟩
    · have hnx : ∀ ty, (Instr.next (.pointer (some ⟨W1.heap.size, 0, none⟩)) true ty).run Tryz.prog (W1.iter a pos) = _ := fun ty => run_next_end W1 a pos ty hp
      have HV := Lib.hid (show cmp (k : Int) (n : Int) = C by
        rw [← HS.out, rns_end a pos hp, ← HN.out, cmp_tail (by rw [HN.out]; exact hk)])
      have hbF : ∀ p, Below w.heap.size w (W1.iter a p) := fun p => hbel.alloc hbel.size _
      clear HS HC HU
      go_wp2_with fail
      refine (HI.out _ _ _).mono ?_
      rintro e w2 ⟨rfl, rfl⟩
      rw [HV.out]
      go_wp2
      go_ret
      exact ⟨rfl, hbF _⟩
end Go.Proofs.YtmbjmgmnicacpaaGreatDoor
