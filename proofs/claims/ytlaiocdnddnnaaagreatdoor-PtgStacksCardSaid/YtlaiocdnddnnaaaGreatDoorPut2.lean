/- str.putNarrow, str.putWide by their contracts: what stands behind a row of the call's own. Condition: the row is the call's own, and is not too long. -/
/- str.Put by its contract. Condition: the bytes read as such; neither they nor the text are too long; utf8.ValidString keeps its contract. -/
import Derived.Test.YtlaiocdnddnnaaaGreatDoorPut
import Derived.Test.YtlaiocdnddnnaaaGreatDoorArg
set_option linter.unusedVariables false
set_option linter.unusedSimpArgs false
namespace Go.Proofs.YtlaiocdnddnnaaaGreatDoor
open Go.RowKit Go.Lib
def narBytes (l : List Int) : List UInt8 := l.map by8
set_option maxHeartbeats 4000000 in
set_option maxRecDepth 100000 in
theorem putNarrow_any {w : World} {base n : Nat} {v : Value} {l : List UInt8} (s : ByteArray) (ho : w.ownsRow base 5 1 v n (l.map bv)) (hB : base ≤ w.heap.size) (hn : n + s.size ≤ 100000000000) :
    Calls Tryz.prog 97 #[v, .string s] w fun e w' => ∃ v' n', e = .returned v' ∧ w'.ownsRow base 5 1 v' n' ((l ++ narBytes (rns s.data.toList)).map bv) ∧ Below base w w' := by
  have hs : s.size ≤ 140737488355328 := by omega
  go_enter Tryz.func97, Tryz.ntmps97; go_wp2
  go_loopw [0] (fun out wr => ∃ (pos n' : Nat) (L : List UInt8), wr.heap[w.heap.size]? = some (.stringIter s pos) ∧ wr.ownsRow base 5 1 out n' (L.map bv) ∧ Below base w wr ∧ n' ≤ n + pos ∧ pos ≤ s.size ∧ Hid (L ++ narBytes (rns (s.data.toList.drop pos)) = l ++ narBytes (rns s.data.toList))) (fun _ w' => s.size - w'.iterPos w.heap.size)
  case atStart => exact ⟨0, n, l, heap_alloc_new w _, ho.alloc _, (Below.refl base w).alloc hB _, by omega, by omega, Lib.hid (by rw [List.drop_zero])⟩
  case round =>
    obtain ⟨pos, n', L, hi, ho, hbel, hn', hp0, HL⟩ := hrel; have hsz := hbel.size
    by_cases hp : pos < s.size
    · have hnx : ∀ ty, (Instr.next (.pointer (some ⟨w.heap.size, 0, none⟩)) true ty).run Tryz.prog wr = _ := fun ty => run_next_any_at wr w.heap.size s pos ty hi hp; have hwd := Lib.decode_width_pos s pos hp; have hle : pos + (Utf8.decode s pos).2 ≤ s.size := decode_le s pos hp; have hst := Lib.hid (rns_at s pos hp); have hi2 := iterAt_heap wr w.heap.size s pos (pos + (Utf8.decode s pos).2) hi; have ho2 := own_iterAt ho hi (pos + (Utf8.decode s pos).2); have hb2 := below_iterAt hbel hB s (pos + (Utf8.decode s pos).2); have hpos := iterPos_at hi; clear ho hbel hi; generalize hr : ((Utf8.decode s pos).1 : Int) = r at *; generalize hk : (Utf8.decode s pos).2 = k at *; generalize hW : wr.iterAt w.heap.size s (pos + k) = W at *
      go_wp2_with (at_builtin; refine wpList_app bytesRow rfl (.tmp 12) (.tmp 15) rfl rfl rfl (ho2.alloc _) (Rd.fresh _ _ 1 1 _ rfl) ?_ ?_ ?_ ?_ ?_)
      · intro u hu; simp at hu; subst hu; rfl
      · unfold maxLen; omega
      · omega
      · have := hb2.size; simp; omega
      intro v2 w2 o2 g2 b2'
      have o3 : w2.ownsRow base 5 1 v2 (n' + 1) ((L ++ [by8 r]).map bv) := by
        rw [List.map_append, List.map_cons, List.map_nil, bv_by8]; exact o2
      have hi3 := iter_grew ho2 hi2 g2; have hb3 : Below base w w2 := hb2.trans (((Below.refl base W).alloc (Nat.le_trans hB hb2.size) _).trans b2'); have hpos3 := iterPos_at hi3
      have HL2 : Hid (L ++ [by8 r] ++ narBytes (rns (s.data.toList.drop (pos + k))) = l ++ narBytes (rns s.data.toList)) := Lib.hid (by
        have h2 := hst.out; have h1 := HL.out; rw [h2] at h1
        simpa [narBytes, List.append_assoc] using h1)
      clear o2 b2' ho2 hi2 g2 hb2; go_wp2
      go_roundw
      case rel => exact ⟨pos + k, n' + 1, _, hi3, o3, hb3, by omega, hle, HL2⟩
      case measure => rw [hpos3, hpos]; omega
    · have hnx : ∀ ty, (Instr.next (.pointer (some ⟨w.heap.size, 0, none⟩)) true ty).run Tryz.prog wr = _ := fun ty => run_next_end_at wr w.heap.size s pos ty hi hp; have h1 := HL.out; rw [rns_end s pos hp] at h1; have h2 : L = l ++ narBytes (rns s.data.toList) := by simpa [narBytes] using h1
      clear h1 HL; subst h2; go_wp2; go_ret; exact ⟨_, n', rfl, ho, hbel⟩
def wideBytes (l : List Int) : List UInt8 := l.flatMap b2
set_option maxHeartbeats 4000000 in
set_option maxRecDepth 100000 in
theorem putWide_any {w : World} {base n : Nat} {v : Value} {l : List UInt8} (s : ByteArray) (ho : w.ownsRow base 5 1 v n (l.map bv)) (hB : base ≤ w.heap.size) (hn : n + 4 * s.size ≤ 100000000000) :
    Calls Tryz.prog 98 #[v, .string s] w fun e w' => ∃ v' n', e = .returned v' ∧ w'.ownsRow base 5 1 v' n' ((l ++ wideBytes (unis s.data.toList)).map bv) ∧ Below base w w' := by
  have hs : s.size ≤ 140737488355328 := by omega
  go_enter Tryz.func98, Tryz.ntmps98; go_wp2
  go_loopw [0] (fun out wr => ∃ (pos n' : Nat) (L : List UInt8), wr.heap[w.heap.size]? = some (.stringIter s pos) ∧ wr.ownsRow base 5 1 out n' (L.map bv) ∧ Below base w wr ∧ n' ≤ n + 4 * pos ∧ pos ≤ s.size ∧ Hid (L ++ wideBytes (unis (s.data.toList.drop pos)) = l ++ wideBytes (unis s.data.toList))) (fun _ w' => s.size - w'.iterPos w.heap.size)
  case atStart => exact ⟨0, n, l, heap_alloc_new w _, ho.alloc _, (Below.refl base w).alloc hB _, by omega, by omega, Lib.hid (by rw [List.drop_zero])⟩
  case round =>
    obtain ⟨pos, n', L, hi, ho, hbel, hn', hp0, HL⟩ := hrel; have hsz := hbel.size
    by_cases hp : pos < s.size
    · have hnx : ∀ ty, (Instr.next (.pointer (some ⟨w.heap.size, 0, none⟩)) true ty).run Tryz.prog wr = _ := fun ty => run_next_any_at wr w.heap.size s pos ty hi hp; have hwd := Lib.decode_width_pos s pos hp; have hle : pos + (Utf8.decode s pos).2 ≤ s.size := decode_le s pos hp; have hst : Hid (unis (s.data.toList.drop pos) = uni ((Utf8.decode s pos).1 : Int) ++ unis (s.data.toList.drop (pos + (Utf8.decode s pos).2))) := Lib.hid (by unfold unis; rw [rns_at s pos hp, List.flatMap_cons]); have hrb := decodeL_rune (s.data.toList.drop pos); rw [decode_drop] at hrb; have hr0 : 0 ≤ ((Utf8.decode s pos).1 : Int) := by omega
      have hr1 : ((Utf8.decode s pos).1 : Int) ≤ 1114111 := by omega
      clear hrb; have hi2 := iterAt_heap wr w.heap.size s pos (pos + (Utf8.decode s pos).2) hi; have ho2 := own_iterAt ho hi (pos + (Utf8.decode s pos).2); have hb2 := below_iterAt hbel hB s (pos + (Utf8.decode s pos).2); have hpos := iterPos_at hi; clear ho hbel hi; generalize hr : ((Utf8.decode s pos).1 : Int) = r at *; generalize hk : (Utf8.decode s pos).2 = k at *; generalize hW : wr.iterAt w.heap.size s (pos + k) = W at *; have hBW : base ≤ W.heap.size := Nat.le_trans hB hb2.size
      by_cases hbig : r < 65536
      · go_wp2_with fail
        refine (put16_any ho2 hBW (by omega)).mono ?_; rintro e w2 ⟨v2, rfl, o2, b2', k2⟩; have hi3 := k2 _ _ _ hi2; have hb3 : Below base w w2 := hb2.trans b2'; have hpos3 := iterPos_at hi3
        have HL2 : Hid (L ++ b2 r ++ wideBytes (unis (s.data.toList.drop (pos + k))) = l ++ wideBytes (unis s.data.toList)) := Lib.hid (by
          have h2 := hst.out; have h1 := HL.out; rw [h2, show uni r = [r] by unfold uni; rw [if_pos hbig]] at h1
          simpa [wideBytes, List.append_assoc] using h1)
        clear b2' k2 ho2 hi2 hb2; go_wp2
        go_roundw
        case rel => exact ⟨pos + k, n' + 2, _, hi3, o2, hb3, by omega, hle, HL2⟩
        case measure => rw [hpos3, hpos]; omega
      · have f1 : bits .or .i32 55296 ((r - 65536) / 1024) = 55296 + (r - 65536) / 1024 := i32_or _ _ (by omega) (by omega) (by omega) (by omega) (by omega); have f2 : bits .and .i32 r 1023 = r % 1024 := i32_and _ hr0 (by omega); have f3 : bits .or .i32 56320 (r % 1024) = 56320 + r % 1024 := i32_or _ _ (by omega) (by omega) (by omega) (by omega) (by omega); have HU := Lib.hid (show uni r = [55296 + (r - 65536) / 1024, 56320 + r % 1024] by unfold uni; rw [if_neg hbig])
        go_wp2_with fail
        refine (put16_any ho2 hBW (by omega)).mono ?_; rintro e w2 ⟨v2, rfl, o2, b2', k2⟩; have hi3 := k2 _ _ _ hi2; have hb3 : Below base w w2 := hb2.trans b2'; have hBW2 : base ≤ w2.heap.size := Nat.le_trans hB hb3.size; clear b2' k2 ho2 hi2 hb2
        go_wp2_with fail
        refine (put16_any o2 hBW2 (by omega)).mono ?_; rintro e w3 ⟨v3, rfl, o3, b3', k3⟩; have hi4 := k3 _ _ _ hi3; have hb4 : Below base w w3 := hb3.trans b3'; have hpos3 := iterPos_at hi4
        have HL2 : Hid (L ++ b2 (55296 + (r - 65536) / 1024) ++ b2 (56320 + r % 1024) ++ wideBytes (unis (s.data.toList.drop (pos + k))) = l ++ wideBytes (unis s.data.toList)) := Lib.hid (by
          have h2 := hst.out; have h1 := HL.out; rw [h2, HU.out] at h1
          simpa [wideBytes, List.append_assoc] using h1)
        clear b3' k3 o2 hi3 hb3 f1 f2 f3; go_wp2
        go_roundw
        case rel => exact ⟨pos + k, n' + 2 + 2, _, hi4, o3, hb4, by omega, hle, HL2⟩
        case measure => rw [hpos3, hpos]; omega
    · have hnx : ∀ ty, (Instr.next (.pointer (some ⟨w.heap.size, 0, none⟩)) true ty).run Tryz.prog wr = _ := fun ty => run_next_end_at wr w.heap.size s pos ty hi hp; have h1 := HL.out; rw [show unis (s.data.toList.drop pos) = [] by unfold unis; rw [rns_end s pos hp]; rfl] at h1; have h2 : L = l ++ wideBytes (unis s.data.toList) := by simpa [wideBytes] using h1
      clear h1 HL; subst h2; go_wp2; go_ret; exact ⟨_, n', rfl, ho, hbel⟩
end Go.Proofs.YtlaiocdnddnnaaaGreatDoor
namespace Go.Proofs.YtlaiocdnddnnaaaGreatDoor
open Go.RowKit Go.Lib
def putL (b l : List UInt8) : List UInt8 := if uE l = 0 then b ++ b2 (unN l) ++ (if narB l = true then 0 :: narBytes (rns l) else 1 :: wideBytes (unis l)) else b
def zs (n : Nat) : Array Value := ((List.replicate n (0 : UInt8)).map bv).toArray
theorem made_one' (x : Value) (n : Nat) : madeCells #[x] (n * 1) = (List.replicate n x).toArray := by
  refine Array.toList_inj.1 (List.ext_getElem? fun i => ?_); simp only [madeCells, Nat.mul_one, List.size_toArray, List.length_cons, List.length_nil, Nat.zero_add, Nat.mod_one, Array.toList_map, List.getElem?_map]; simp only [Array.toList_range, List.getElem?_replicate]
  by_cases h : i < n <;> simp [h]
theorem run_make_room (n s : Nat) (hn : n + s ≤ 1000000000) (W : World) : (Instr.makeSlice 35 (.int .i64 0) (.int .i64 ((n : Int) + (s : Int)))).run Tryz.prog W = .ok (.slice (some ⟨W.heap.size, 0, none⟩) 0 (n + s)) (W.alloc (.cells (zs (n + s)) 5)) := by
  obtain ⟨i, hi, h0, h1, h2⟩ := bytesRow.info; have h := run_make (P := Tryz.prog) W 35 5 i _ bytesRow.under hi h0 .i64 .i64 0 ((n + s : Nat) : Int) (by omega) (by omega) (by rw [h2]; omega) (by omega); rw [show ((n : Int) + (s : Int)) = ((n + s : Nat) : Int) by omega, h, h1, Int.toNat_natCast]
  have e : madeCells (Value.int .u8 0).cells ((n + s) * 1) = zs (n + s) := by
    show madeCells #[Value.int .u8 0] ((n + s) * 1) = _
    rw [made_one', zs, List.map_replicate]; rfl
  rw [e]; rfl
theorem zs_size (n : Nat) : (zs n).size = n := by simp [zs]
theorem szV_ok {l : List UInt8} (h : uE l = 0) : ∃ z : Nat, szV l = (z : Int) ∧ z ≤ 2003 := by
  have := (uE_valid h).2; unfold szV; rw [if_pos h]
  by_cases hn : narB l = true
  · rw [if_pos hn]; exact ⟨3 + unN l, by omega, by omega⟩
  · rw [if_neg hn]; exact ⟨3 + 2 * unN l, by omega, by omega⟩
theorem own_below {w w' : World} {base n k : Nat} {e : TypeId} {v : Value} {xs : List Value} (h : w.ownsRow base e k v n xs) (hb : Below w.heap.size w w') : w'.ownsRow base e k v n xs := by
  refine ⟨h.1, ?_⟩
  rcases h.2 with h2 | ⟨b, cap, cur, hv, hb1, hh, r⟩
  · exact .inl h2
  · exact .inr ⟨b, cap, cur, hv, hb1, by rw [hb.block b (Array.getElem?_eq_some_iff.1 hh).1]; exact hh, r⟩
set_option maxHeartbeats 4000000 in
set_option maxRecDepth 100000 in
theorem put_any {w : World} {B n c : Nat} {A : Option Addr} {b : List UInt8} (HV : Val w) (h : Rd w B 1 A n (b.map bv)) (hB : B ≤ w.heap.size) (hn : n ≤ 100000000) (s : ByteArray) (hs : s.size ≤ 100000) :
    Calls Tryz.prog 69 #[.slice A n c, .string s] w fun e w' => ∃ v' n', e = .returned (.tuple #[v', .int .i64 (uE s.data.toList)]) ∧ w'.ownsRow w.heap.size 5 1 v' n' ((putL b s.data.toList).map bv) ∧ Below w.heap.size w w' := by
  have hs' : s.size ≤ 140737488355328 := by omega
  have HU := units_any HV s hs'
  by_cases h0 : uE s.data.toList = 0
  · have hle := unN_le2 s h0; have e1 : uV s.data.toList = (unN s.data.toList : Int) := by unfold uV; rw [if_pos h0]
    obtain ⟨z, hz, hz1⟩ := szV_ok h0; have HZ := Lib.hid (fun (W : World) (hb : Below w.heap.size w W) => (by have := size_any (HV.below hb) s hs'; rw [hz] at this; exact this : Calls Tryz.prog 94 #[.string s] W fun e w' => e = .returned (.int .i64 (z : Int)) ∧ Below W.heap.size W w')); rw [e1, h0] at HU; have HN := Lib.hid (fun W : World => narrow_any (w := W) s hs'); have HK := Lib.hid (show putL b s.data.toList = b ++ b2 (unN s.data.toList) ++ (if narB s.data.toList = true then 0 :: narBytes (rns s.data.toList) else 1 :: wideBytes (unis s.data.toList)) by unfold putL; rw [if_pos h0]); obtain ⟨P, hP⟩ : ∃ P, putL b s.data.toList = P := ⟨_, rfl⟩
    rw [hP] at HK; rw [hP, h0]; clear hP e1 hz h0 HV; have HU2 := Lib.hid HU; clear HU; have HPN := Lib.hid (fun (W : World) (m : Nat) (v : Value) (l : List UInt8) (ho : W.ownsRow w.heap.size 5 1 v m (l.map bv)) (hB : w.heap.size ≤ W.heap.size) (hm : m + s.size ≤ 100000000000) => putNarrow_any s ho hB hm); have HPW := Lib.hid (fun (W : World) (m : Nat) (v : Value) (l : List UInt8) (ho : W.ownsRow w.heap.size 5 1 v m (l.map bv)) (hB : w.heap.size ≤ W.heap.size) (hm : m + 4 * s.size ≤ 100000000000) => putWide_any s ho hB hm); obtain ⟨NB, hNB⟩ : ∃ NB, narB s.data.toList = NB := ⟨_, rfl⟩
    rw [hNB] at HN HK; clear hNB; generalize unN s.data.toList = K at *; generalize narBytes (rns s.data.toList) = LN at *; generalize wideBytes (unis s.data.toList) = LW at *; have hmk := run_make_room n z (by omega); go_enter Tryz.func69, Tryz.ntmps69
    go_wp2_with fail
    refine HU2.out.mono ?_; rintro e w1 ⟨rfl, hb1⟩; clear HU2
    go_wp2_with fail
    refine (HZ.out w1 hb1).mono ?_; rintro e w2 ⟨rfl, hb2⟩; have hb := hb1.trans (hb2.mono hb1.size); have hr2 := h.belowMono hb hB; clear HZ hb1 hb2 h; have hm := World.ownsRow_made (base := w.heap.size) (size := 1) (e := 5) w2 (zs (n + z)) (n + z) hb.size (by unfold maxLen; omega) (by rw [zs_size]; omega); have hr3 := hr2.belowMono ((Below.refl w2.heap.size w2).alloc (Nat.le_refl _) (.cells (zs (n + z)) 5)) (Nat.le_trans hB hb.size)
    go_wp2_with (at_builtin; refine wpList_app bytesRow rfl (.tmp 25) (.tmp 26) rfl rfl rfl hm hr3 (bv_one _) ?_ ?_ ?_ ?_)
    · unfold maxLen; omega
    · omega
    · have := hb.size; simp; omega
    intro v1 w3 o1 _ b1; have hb3 := (hb.alloc hb.size (.cells (zs (n + z)) 5)).trans b1
    try simp only [Nat.zero_add, List.nil_append] at o1
    clear hmk hm hr3 hr2 b1 hb
    go_wp2_with fail
    refine (put16_any o1 hb3.size (by omega)).mono ?_; rintro e w4 ⟨v4, rfl, o4, b4, -⟩; have hb4 := hb3.trans b4; clear o1 b4 hb3
    go_wp2_with fail
    refine (HN.out w4).mono ?_; rintro e w5 ⟨rfl, b5⟩; have o5 := own_below o4 b5; have hb5 := hb4.trans (b5.mono hb4.size); clear o4 b5 hb4 HN
    cases NB
    · have HK2 : Hid (b ++ b2 (K : Int) ++ [1] ++ LW = P) := Lib.hid (by have := HK.out; simp at this; rw [this]; simp); clear HK
      go_wp2_with (at_builtin; refine wpList_app bytesRow rfl (.tmp 39) (.tmp 40) rfl rfl rfl (o5.alloc _) (Rd.fresh _ _ 1 1 _ rfl) ?_ ?_ ?_ ?_ ?_)
      · intro u hu; simp at hu; subst hu; rfl
      · unfold maxLen; omega
      · omega
      · have := hb5.size; simp; omega
      intro v6 w6 o6 _ b6; have hb6 := (hb5.alloc hb5.size _).trans b6
      have o7 : w6.ownsRow w.heap.size 5 1 v6 (n + 2 + 1) ((b ++ b2 (K : Int) ++ [1]).map bv) := by
        rw [List.map_append, List.map_cons, List.map_nil, List.map_append, List.append_assoc]; exact o6
      clear o6 b6 o5 hb5
      go_wp2_with fail
      refine (HPW.out w6 _ v6 _ o7 hb6.size (by omega)).mono ?_; rintro e w7 ⟨v7, n7, rfl, o8, b7⟩; have hb7 := hb6.trans b7; rw [HK2.out] at o8; clear o7 b7 hb6 HK2; go_wp2
      go_ret2
      exact ⟨_, _, rfl, o8, hb7⟩
    · have HK2 : Hid (b ++ b2 (K : Int) ++ [0] ++ LN = P) := Lib.hid (by have := HK.out; simp at this; rw [this]; simp); clear HK
      go_wp2_with (at_builtin; refine wpList_app bytesRow rfl (.tmp 34) (.tmp 35) rfl rfl rfl (o5.alloc _) (Rd.fresh _ _ 1 1 _ rfl) ?_ ?_ ?_ ?_ ?_)
      · intro u hu; simp at hu; subst hu; rfl
      · unfold maxLen; omega
      · omega
      · have := hb5.size; simp; omega
      intro v6 w6 o6 _ b6; have hb6 := (hb5.alloc hb5.size _).trans b6
      have o7 : w6.ownsRow w.heap.size 5 1 v6 (n + 2 + 1) ((b ++ b2 (K : Int) ++ [0]).map bv) := by
        rw [List.map_append, List.map_cons, List.map_nil, List.map_append, List.append_assoc]; exact o6
      clear o6 b6 o5 hb5
      go_wp2_with fail
      refine (HPN.out w6 _ v6 _ o7 hb6.size (by omega)).mono ?_; rintro e w7 ⟨v7, n7, rfl, o8, b7⟩; have hb7 := hb6.trans b7; rw [HK2.out] at o8; clear o7 b7 hb6 HK2; go_wp2
      go_ret2
      exact ⟨_, _, rfl, o8, hb7⟩
  · have e1 : uV s.data.toList = 0 := by unfold uV; rw [if_neg h0]
    rw [e1] at HU; have e2 : putL b s.data.toList = b := by unfold putL; rw [if_neg h0]
    rw [e2]; clear e1 e2; obtain ⟨E, hE⟩ : ∃ E, uE s.data.toList = E := ⟨_, rfl⟩
    rw [hE] at HU h0; rw [hE]; clear hE; go_enter Tryz.func69, Tryz.ntmps69
    go_wp2_with fail
    refine HU.mono ?_; rintro e w1 ⟨rfl, hb1⟩; have hr := h.belowMono hb1 hB; clear h HU
    go_wp2_with fail
    refine (clone_any hr (Nat.le_trans hB hb1.size) (by omega)).mono ?_; rintro e w2 ⟨v2, rfl, o2, b2⟩; have hb := hb1.trans (b2.mono hb1.size); have o3 : w2.ownsRow w.heap.size 5 1 v2 n (b.map bv) := own_mono o2 hb1.size; go_wp2
    go_ret2
    exact ⟨_, n, rfl, o3, hb⟩
end Go.Proofs.YtlaiocdnddnnaaaGreatDoor
