/- str.putNarrow, str.putWide by their contracts: what stands behind a row of the call's own. Condition: the row is the call's own, and is not too long. -/
import Derived.Test.YtgepipapppdhfaaDoorPut
namespace Go.Proofs.YtgepipapppdhfaaDoor
open Go.RowKit Go.Lib

def narBytes (l : List Int) : List UInt8 := l.map by8

set_option maxHeartbeats 4000000 in
set_option maxRecDepth 100000 in
theorem putNarrow_any {w : World} {base n : Nat} {v : Value} {l : List UInt8} (s : ByteArray) (ho : w.ownsRow base 5 1 v n (l.map bv)) (hB : base ≤ w.heap.size) (hn : n + s.size ≤ 100000000000) :
    Calls Tryd.prog 21 #[v, .string s] w fun e w' => ∃ v' n', e = .returned v' ∧ w'.ownsRow base 5 1 v' n' ((l ++ narBytes (rns s.data.toList)).map bv) ∧ Below base w w' := by
  have hs : s.size ≤ 140737488355328 := by omega
  go_enter Tryd.func21, Tryd.ntmps21
  go_wp2
  go_loopw [0] (fun out wr => ∃ (pos n' : Nat) (L : List UInt8), wr.heap[w.heap.size]? = some (.stringIter s pos) ∧ wr.ownsRow base 5 1 out n' (L.map bv) ∧ Below base w wr ∧ n' ≤ n + pos ∧ pos ≤ s.size ∧ Hid (L ++ narBytes (rns (s.data.toList.drop pos)) = l ++ narBytes (rns s.data.toList))) (fun _ w' => s.size - w'.iterPos w.heap.size)
  case atStart => exact ⟨0, n, l, heap_alloc_new w _, ho.alloc _, (Below.refl base w).alloc hB _, by omega, by omega, Lib.hid (by rw [List.drop_zero])⟩
  case round =>
    obtain ⟨pos, n', L, hi, ho, hbel, hn', hp0, HL⟩ := hrel
    have hsz := hbel.size
    by_cases hp : pos < s.size
    · have hnx : ∀ ty, (Instr.next (.pointer (some ⟨w.heap.size, 0, none⟩)) true ty).run Tryd.prog wr = _ := fun ty => run_next_any_at wr w.heap.size s pos ty hi hp
      have hwd := Lib.decode_width_pos s pos hp
      have hle : pos + (Utf8.decode s pos).2 ≤ s.size := decode_le s pos hp
      have hst := Lib.hid (rns_at s pos hp)
      have hi2 := iterAt_heap wr w.heap.size s pos (pos + (Utf8.decode s pos).2) hi
      have ho2 := own_iterAt ho hi (pos + (Utf8.decode s pos).2)
      have hb2 := below_iterAt hbel hB s (pos + (Utf8.decode s pos).2)
      have hpos := iterPos_at hi
      clear ho hbel hi
      generalize hr : ((Utf8.decode s pos).1 : Int) = r at *
      generalize hk : (Utf8.decode s pos).2 = k at *
      generalize hW : wr.iterAt w.heap.size s (pos + k) = W at *
      go_wp2_with (at_builtin; refine wpList_app bytesRow rfl (.tmp 12) (.tmp 15) rfl rfl rfl (ho2.alloc _) (Rd.fresh _ _ 1 1 _ rfl) ?_ ?_ ?_ ?_ ?_)
      · intro u hu; simp at hu; subst hu; rfl
      · unfold maxLen; omega
      · omega
      · have := hb2.size; simp; omega
      intro v2 w2 o2 g2 b2'
      have o3 : w2.ownsRow base 5 1 v2 (n' + 1) ((L ++ [by8 r]).map bv) := by
        rw [List.map_append, List.map_cons, List.map_nil, bv_by8]
        exact o2
      have hi3 := iter_grew ho2 hi2 g2
      have hb3 : Below base w w2 := hb2.trans (((Below.refl base W).alloc (Nat.le_trans hB hb2.size) _).trans b2')
      have hpos3 := iterPos_at hi3
      have HL2 : Hid (L ++ [by8 r] ++ narBytes (rns (s.data.toList.drop (pos + k))) = l ++ narBytes (rns s.data.toList)) := Lib.hid (by
        have h2 := hst.out
        have h1 := HL.out
        rw [h2] at h1
        simpa [narBytes, List.append_assoc] using h1)
      clear o2 b2' ho2 hi2 g2 hb2
      go_wp2
      go_roundw
      case rel => exact ⟨pos + k, n' + 1, _, hi3, o3, hb3, by omega, hle, HL2⟩
      case measure => rw [hpos3, hpos]; omega
    · have hnx : ∀ ty, (Instr.next (.pointer (some ⟨w.heap.size, 0, none⟩)) true ty).run Tryd.prog wr = _ := fun ty => run_next_end_at wr w.heap.size s pos ty hi hp
      have h1 := HL.out
      rw [rns_end s pos hp] at h1
      have h2 : L = l ++ narBytes (rns s.data.toList) := by simpa [narBytes] using h1
      clear h1 HL
      subst h2
      go_wp2
      go_ret
      exact ⟨_, n', rfl, ho, hbel⟩

def wideBytes (l : List Int) : List UInt8 := l.flatMap b2
theorem wide_append (a b : List Int) : wideBytes (a ++ b) = wideBytes a ++ wideBytes b := by simp [wideBytes]

set_option maxHeartbeats 4000000 in
set_option maxRecDepth 100000 in
theorem putWide_any {w : World} {base n : Nat} {v : Value} {l : List UInt8} (s : ByteArray) (ho : w.ownsRow base 5 1 v n (l.map bv)) (hB : base ≤ w.heap.size) (hn : n + 4 * s.size ≤ 100000000000) :
    Calls Tryd.prog 22 #[v, .string s] w fun e w' => ∃ v' n', e = .returned v' ∧ w'.ownsRow base 5 1 v' n' ((l ++ wideBytes (unis s.data.toList)).map bv) ∧ Below base w w' := by
  have hs : s.size ≤ 140737488355328 := by omega
  go_enter Tryd.func22, Tryd.ntmps22
  go_wp2
  go_loopw [0] (fun out wr => ∃ (pos n' : Nat) (L : List UInt8), wr.heap[w.heap.size]? = some (.stringIter s pos) ∧ wr.ownsRow base 5 1 out n' (L.map bv) ∧ Below base w wr ∧ n' ≤ n + 4 * pos ∧ pos ≤ s.size ∧ Hid (L ++ wideBytes (unis (s.data.toList.drop pos)) = l ++ wideBytes (unis s.data.toList))) (fun _ w' => s.size - w'.iterPos w.heap.size)
  case atStart => exact ⟨0, n, l, heap_alloc_new w _, ho.alloc _, (Below.refl base w).alloc hB _, by omega, by omega, Lib.hid (by rw [List.drop_zero])⟩
  case round =>
    obtain ⟨pos, n', L, hi, ho, hbel, hn', hp0, HL⟩ := hrel
    have hsz := hbel.size
    by_cases hp : pos < s.size
    · have hnx : ∀ ty, (Instr.next (.pointer (some ⟨w.heap.size, 0, none⟩)) true ty).run Tryd.prog wr = _ := fun ty => run_next_any_at wr w.heap.size s pos ty hi hp
      have hwd := Lib.decode_width_pos s pos hp
      have hle : pos + (Utf8.decode s pos).2 ≤ s.size := decode_le s pos hp
      have hst : Hid (unis (s.data.toList.drop pos) = uni ((Utf8.decode s pos).1 : Int) ++ unis (s.data.toList.drop (pos + (Utf8.decode s pos).2))) := Lib.hid (by unfold unis; rw [rns_at s pos hp, List.flatMap_cons])
      have hrb := decodeL_rune (s.data.toList.drop pos)
      rw [decode_drop] at hrb
      have hr0 : 0 ≤ ((Utf8.decode s pos).1 : Int) := by omega
      have hr1 : ((Utf8.decode s pos).1 : Int) ≤ 1114111 := by omega
      clear hrb
      have hi2 := iterAt_heap wr w.heap.size s pos (pos + (Utf8.decode s pos).2) hi
      have ho2 := own_iterAt ho hi (pos + (Utf8.decode s pos).2)
      have hb2 := below_iterAt hbel hB s (pos + (Utf8.decode s pos).2)
      have hpos := iterPos_at hi
      clear ho hbel hi
      generalize hr : ((Utf8.decode s pos).1 : Int) = r at *
      generalize hk : (Utf8.decode s pos).2 = k at *
      generalize hW : wr.iterAt w.heap.size s (pos + k) = W at *
      have hBW : base ≤ W.heap.size := Nat.le_trans hB hb2.size
      by_cases hbig : r < 65536
      · go_wp2_with fail
        refine (put16_any ho2 hBW (by omega)).mono ?_
        rintro e w2 ⟨v2, rfl, o2, b2', k2⟩
        have hi3 := k2 _ _ _ hi2
        have hb3 : Below base w w2 := hb2.trans b2'
        have hpos3 := iterPos_at hi3
        have HL2 : Hid (L ++ b2 r ++ wideBytes (unis (s.data.toList.drop (pos + k))) = l ++ wideBytes (unis s.data.toList)) := Lib.hid (by
          have h2 := hst.out
          have h1 := HL.out
          rw [h2, show uni r = [r] by unfold uni; rw [if_pos hbig]] at h1
          simpa [wideBytes, List.append_assoc] using h1)
        clear b2' k2 ho2 hi2 hb2
        go_wp2
        go_roundw
        case rel => exact ⟨pos + k, n' + 2, _, hi3, o2, hb3, by omega, hle, HL2⟩
        case measure => rw [hpos3, hpos]; omega
      · have f1 : bits .or .i32 55296 ((r - 65536) / 1024) = 55296 + (r - 65536) / 1024 := i32_or _ _ (by omega) (by omega) (by omega) (by omega) (by omega)
        have f2 : bits .and .i32 r 1023 = r % 1024 := i32_and _ hr0 (by omega)
        have f3 : bits .or .i32 56320 (r % 1024) = 56320 + r % 1024 := i32_or _ _ (by omega) (by omega) (by omega) (by omega) (by omega)
        have HU := Lib.hid (show uni r = [55296 + (r - 65536) / 1024, 56320 + r % 1024] by unfold uni; rw [if_neg hbig])
        go_wp2_with fail
        refine (put16_any ho2 hBW (by omega)).mono ?_
        rintro e w2 ⟨v2, rfl, o2, b2', k2⟩
        have hi3 := k2 _ _ _ hi2
        have hb3 : Below base w w2 := hb2.trans b2'
        have hBW2 : base ≤ w2.heap.size := Nat.le_trans hB hb3.size
        clear b2' k2 ho2 hi2 hb2
        go_wp2_with fail
        refine (put16_any o2 hBW2 (by omega)).mono ?_
        rintro e w3 ⟨v3, rfl, o3, b3', k3⟩
        have hi4 := k3 _ _ _ hi3
        have hb4 : Below base w w3 := hb3.trans b3'
        have hpos3 := iterPos_at hi4
        have HL2 : Hid (L ++ b2 (55296 + (r - 65536) / 1024) ++ b2 (56320 + r % 1024) ++ wideBytes (unis (s.data.toList.drop (pos + k))) = l ++ wideBytes (unis s.data.toList)) := Lib.hid (by
          have h2 := hst.out
          have h1 := HL.out
          rw [h2, HU.out] at h1
          simpa [wideBytes, List.append_assoc] using h1)
        clear b3' k3 o2 hi3 hb3 f1 f2 f3
        go_wp2
        go_roundw
        case rel => exact ⟨pos + k, n' + 2 + 2, _, hi4, o3, hb4, by omega, hle, HL2⟩
        case measure => rw [hpos3, hpos]; omega
    · have hnx : ∀ ty, (Instr.next (.pointer (some ⟨w.heap.size, 0, none⟩)) true ty).run Tryd.prog wr = _ := fun ty => run_next_end_at wr w.heap.size s pos ty hi hp
      have h1 := HL.out
      rw [show unis (s.data.toList.drop pos) = [] by unfold unis; rw [rns_end s pos hp]; rfl] at h1
      have h2 : L = l ++ wideBytes (unis s.data.toList) := by simpa [wideBytes] using h1
      clear h1 HL
      subst h2
      go_wp2
      go_ret
      exact ⟨_, n', rfl, ho, hbel⟩
end Go.Proofs.YtgepipapppdhfaaDoor
