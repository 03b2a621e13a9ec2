/- fun.behind, fun.runes by their contracts. Condition: texts are valid. -/
import Derived.Test.YtngkolcpbgibcaaGreatDoorF3
import Derived.Test.YtngkolcpbgibcaaGreatDoorV3
set_option linter.unusedVariables false
set_option linter.unusedSimpArgs false
namespace Go.Proofs.YtngkolcpbgibcaaGreatDoor
open Go.RowKit Go.Lib
def bhN (l : List UInt8) (n : Nat) : Nat := (((rns l).take n).flatMap encodeRune).length
structure AtR (l : List UInt8) (pos j : Nat) : Prop where
  at_ : pos = bhN l j
  dr : rns (l.drop pos) = (rns l).drop j
  va : validD (l.drop pos) = true
theorem AtR.start {l : List UInt8} (hv : validD l = true) : AtR l 0 0 := ⟨by simp [bhN], by simp, by simpa using hv⟩
theorem AtR.step {s : ByteArray} {pos j : Nat} (h : AtR s.data.toList pos j) (hp : pos < s.size) : AtR s.data.toList (pos + (Utf8.decode s pos).2) (j + 1) := by
  have hne := drop_ne s pos hp; have hd := decode_drop s pos; obtain ⟨h1, h2⟩ := valid_head hne h.va; have hr := rns_at s pos hp; have hdr := h.dr; rw [hr] at hdr
  have hj : (rns s.data.toList)[j]? = some ((Utf8.decode s pos).1 : Int) := by
    have := congrArg (·[0]?) hdr
    simpa [List.getElem?_drop] using this.symm
  have henc : encodeRune ((Utf8.decode s pos).1 : Int) = (s.data.toList.drop pos).take (Utf8.decode s pos).2 := by
    rw [← hd]; exact encode_decode _ hne h1
  have hle := decode_le s pos hp; refine ⟨?_, ?_, ?_⟩
  · have e : bhN s.data.toList (j + 1) = bhN s.data.toList j + (encodeRune ((Utf8.decode s pos).1 : Int)).length := by
      unfold bhN; rw [List.take_add_one, hj, List.flatMap_append, List.length_append]; simp
    rw [e, ← h.at_, henc, List.length_take, List.length_drop]; simp; omega
  · have := congrArg List.tail hdr; simp only [List.tail_cons, List.tail_drop] at this; exact this
  · rw [hd, List.drop_drop] at h2; exact h2
theorem AtR.done {s : ByteArray} {pos j n : Nat} (h : AtR s.data.toList pos j) (hp : ¬ pos < s.size) (hn : j ≤ n) (hv : validD s.data.toList = true) : bhN s.data.toList n = s.size := by
  have h1 := h.dr; rw [rns_end s pos hp] at h1
  have h2 : (rns s.data.toList).length ≤ j := by
    have := congrArg List.length h1; simp at this; omega
  unfold bhN; rw [List.take_of_length_le (by omega), enc_back hv]; simp
theorem cut_app {a b l : List UInt8} (h : a ++ b = l) : l.take a.length = a ∧ l.drop a.length = b := by
  subst h; simp
theorem bhN_take {l : List UInt8} (hv : validD l = true) (n : Nat) : l.take (bhN l n) = ((rns l).take n).flatMap encodeRune ∧ l.drop (bhN l n) = ((rns l).drop n).flatMap encodeRune :=
  cut_app (by rw [← List.flatMap_append, List.take_append_drop]; exact enc_back hv)
theorem bhN_le {l : List UInt8} (hv : validD l = true) (n : Nat) : bhN l n ≤ l.length := by
  have h := congrArg List.length (enc_back hv)
  have e : ((rns l).flatMap encodeRune).length = (((rns l).take n).flatMap encodeRune).length + (((rns l).drop n).flatMap encodeRune).length := by
    rw [← List.length_append, ← List.flatMap_append, List.take_append_drop]
  unfold bhN; omega
set_option maxHeartbeats 4000000 in
set_option maxRecDepth 100000 in
theorem behind_any {w : World} (s : ByteArray) (n : Nat) (hv : validD s.data.toList = true) (hs : s.size ≤ 140737488355328) (hn : n ≤ 9223372036854775807) :
    Calls Tryz.prog 181 #[.string s, .int .i64 n] w fun e w' => e = .returned (.int .i64 (bhN s.data.toList n : Nat)) ∧ Below w.heap.size w w' := by
  have HV := Lib.hid hv; have H0 := Lib.hid (AtR.start hv); clear hv; go_enter Tryz.func181, Tryz.ntmps181; go_wp2
  go_loopw [1] (fun m w' => ∃ pos j : Nat, w' = w.iter s pos ∧ m = .int .i64 ((n : Int) - j) ∧ j ≤ n ∧ Hid (AtR s.data.toList pos j) ∧ pos ≤ s.size) (fun _ w' => s.size - w'.iterPos w.heap.size)
  case atStart => exact ⟨0, 0, rfl, by simp, by omega, H0, by omega⟩
  case round =>
    clear H0; obtain ⟨pos, j, rfl, rfl, hj, HA, hp0⟩ := hrel
    by_cases hp : pos < s.size
    · have hnx : ∀ ty, (Instr.next (.pointer (some ⟨w.heap.size, 0, none⟩)) true ty).run Tryz.prog (w.iter s pos) = _ := fun ty => run_next_any w s pos ty hp; have hwd := Lib.decode_width_pos s pos hp; have hle : pos + (Utf8.decode s pos).2 ≤ s.size := decode_le s pos hp; have HS := Lib.hid (HA.out.step hp); generalize hr : ((Utf8.decode s pos).1 : Int) = r at *; generalize hk : (Utf8.decode s pos).2 = k at *
      by_cases he : j = n
      · have he' : ((n : Int) - j == 0) = true := by rw [he]; simp
        have HP : Hid (bhN s.data.toList n = pos) := Lib.hid (by rw [← he]; exact HA.out.at_.symm); clear he; go_wp2; go_ret; exact ⟨by rw [HP.out]; rfl, (Below.refl w.heap.size w).alloc (Nat.le_refl _) _⟩
      · have he' : ((n : Int) - j == 0) = false := by rw [beq_eq_false_iff_ne]; omega
        go_wp2
        go_roundw
        case rel => exact ⟨pos + k, j + 1, rfl, by go_num, by omega, HS, hle⟩
        case measure =>
          simp; omega
    · have hnx : ∀ ty, (Instr.next (.pointer (some ⟨w.heap.size, 0, none⟩)) true ty).run Tryz.prog (w.iter s pos) = _ := fun ty => run_next_end w s pos ty hp; have HP : Hid (bhN s.data.toList n = s.size) := Lib.hid (HA.out.done hp hj HV.out); have hbF : Below w.heap.size w (w.iter s pos) := (Below.refl w.heap.size w).alloc (Nat.le_refl _) _; go_wp2; go_ret; exact ⟨by rw [HP.out]; rfl, hbF⟩
end Go.Proofs.YtngkolcpbgibcaaGreatDoor
