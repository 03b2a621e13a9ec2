/- le.put, le.Put16, le.Put32 by their contracts. Condition: the bytes read as such, and are no more than a thousand. -/
import Derived.Test.YtllcecnkbndokaaGreatDoorPut2
namespace Go.Proofs.YtllcecnkbndokaaGreatDoor
open Go.RowKit Go.Lib

/-- The lowest bytes of a number, so many, the lower first. -/
def lowB (v : Nat) : Nat → List UInt8
  | 0 => []
  | k + 1 => lowB v k ++ [UInt8.ofNat (v / 256 ^ k)]

theorem lowB_len (v k : Nat) : (lowB v k).length = k := by
  induction k with
  | zero => rfl
  | succ k ih => simp [lowB, ih]

theorem numN_lowB (v k : Nat) : numN (lowB v k) = v % 256 ^ k := by
  induction k with
  | zero => simp [lowB, numN, Nat.mod_one]
  | succ k ih =>
    rw [lowB, numN_append, ih, lowB_len, Nat.mod_pow_succ]
    simp [numN]

theorem bv_ofNat (x : Nat) : bv (UInt8.ofNat x) = .int .u8 ((x : Int) % 256) := by
  unfold bv
  rw [UInt8.toNat_ofNat']
  simp

set_option maxHeartbeats 1000000 in
theorem lput_any {w : World} {B n c v s : Nat} {A : Option Addr} {l : List UInt8} (h : Rd w B 1 A n (l.map bv)) (hB : B ≤ w.heap.size) (hn : n ≤ 1000) (hv : v < 18446744073709551616) (hs : s ≤ 8) :
    Calls Tryz.prog 63 #[.slice A n c, .int .u64 v, .int .i64 s] w fun e w' => ∃ v', e = .returned v' ∧ w'.ownsRow w.heap.size 5 1 v' (n + s) ((l ++ lowB v s).map bv) ∧ Below w.heap.size w w' := by
  have hmk := run_make_room n s (by omega)
  have hm := World.ownsRow_made (base := w.heap.size) (size := 1) (e := 5) w (zs (n + s)) (n + s) (Nat.le_refl _) (by unfold maxLen; omega) (by rw [zs_size]; omega)
  have hr1 := h.belowMono ((Below.refl w.heap.size w).alloc (Nat.le_refl _) (.cells (zs (n + s)) 5)) hB
  go_enter Tryz.func63, Tryz.ntmps63
  go_wp2_with (at_builtin; refine wpList_app bytesRow rfl (.tmp 13) (.tmp 14) rfl rfl rfl hm hr1 (bv_one _) ?_ ?_ ?_ ?_)
  · unfold maxLen; omega
  · omega
  · simp
  intro v1 w1 o1 _ b1
  have b1' := ((Below.refl w.heap.size w).alloc (Nat.le_refl _) (.cells (zs (n + s)) 5)).trans b1
  try simp only [Nat.zero_add, List.nil_append] at o1
  clear hmk hm hr1 b1
  go_wp2
  go_loopw [1, 7, 17] (fun nv out i wr => ∃ (k q : Nat) (L : List UInt8), k ≤ s ∧ i = .int .i64 k ∧ nv = .int .u64 q ∧ q ≤ v ∧ wr.ownsRow w.heap.size 5 1 out (n + k) (L.map bv) ∧ Below w.heap.size w wr ∧ Hid (q = v / 256 ^ k) ∧ Hid (L = l ++ lowB v k)) (fun _ _ i _ => s - (intOf i).toNat)
  case atStart => exact ⟨0, v, l, Nat.zero_le _, rfl, rfl, Nat.le_refl _, o1, b1', Lib.hid (by simp), Lib.hid (by simp [lowB])⟩
  case round =>
    obtain ⟨k, q, L, hk, rfl, rfl, hq, ho, hbel, HQ, HL⟩ := hrel
    have hsz := hbel.size
    by_cases hks : k < s
    · have hks' : (k : Int) < (s : Int) := by omega
      go_wp2_with (at_builtin; refine wpList_app bytesRow rfl (.tmp 19) (.tmp 22) rfl rfl rfl (ho.alloc _) (Rd.fresh _ _ 1 1 _ rfl) ?_ ?_ ?_ ?_ ?_)
      · intro u hu; simp at hu; subst hu; rfl
      · unfold maxLen; omega
      · omega
      · simp; omega
      intro v2 w2 o2 _ b2
      have b2' := hbel.trans (((Below.refl w.heap.size wr).alloc hsz _).trans b2)
      have HQ2 := Lib.hid (show q / 256 = v / 256 ^ (k + 1) by rw [HQ.out, Nat.pow_succ, Nat.div_div_eq_div_mul])
      have HL2 : Hid (L ++ [UInt8.ofNat q] = l ++ lowB v (k + 1)) := Lib.hid (by rw [HL.out, HQ.out, lowB, List.append_assoc])
      have hqv : q / 256 ≤ v := by omega
      have o3 : w2.ownsRow w.heap.size 5 1 v2 (n + (k + 1)) ((L ++ [UInt8.ofNat q]).map bv) := by
        rw [List.map_append, List.map_cons, List.map_nil, bv_ofNat]
        exact o2
      clear o2 b2 ho
      go_wp2
      go_roundw
      case rel => exact ⟨k + 1, q / 256, _, by omega, by go_num, by simp, hqv, o3, b2', HQ2, HL2⟩
      case measure => simp [intOf]; omega
    · obtain rfl : k = s := by omega
      have hks' : ¬ (k : Int) < (k : Int) := by omega
      go_wp2
      go_ret
      rw [HL.out, List.map_append] at ho
      exact ⟨_, rfl, ho, hbel⟩

/-- Whether a number fits so many bytes; what is told. -/
def lputE (k : Int) (s : Nat) : Int := if 0 ≤ k ∧ k < ((256 ^ s : Nat) : Int) then 0 else 1
def lputL (l : List UInt8) (k : Int) (s : Nat) : List UInt8 := if 0 ≤ k ∧ k < ((256 ^ s : Nat) : Int) then l ++ lowB k.toNat s else l

theorem lput16_any {w : World} {B n c : Nat} {k : Int} {A : Option Addr} {l : List UInt8} (h : Rd w B 1 A n (l.map bv)) (hB : B ≤ w.heap.size) (hn : n ≤ 1000) :
    Calls Tryz.prog 43 #[.slice A n c, .int .i64 k] w fun e w' => ∃ v', e = .returned (.tuple #[v', .int .i64 (lputE k 2)]) ∧ w'.ownsRow w.heap.size 5 1 v' (lputL l k 2).length ((lputL l k 2).map bv) ∧ Below w.heap.size w w' := by
  have hl := Lib.hid h.blen
  by_cases h0 : k < 0
  · have HF := Lib.hid (show lputE k 2 = 1 ∧ lputL l k 2 = l by unfold lputE lputL; rw [if_neg (by omega), if_neg (by omega)]; exact ⟨rfl, rfl⟩)
    go_enter Tryz.func43, Tryz.ntmps43
    go_wp2_with fail
    refine (clone_any h hB (by omega)).mono ?_
    rintro e w1 ⟨v', rfl, ho, hb⟩
    go_wp2
    go_ret2
    rw [HF.out.1, HF.out.2, hl.out]
    exact ⟨_, rfl, ho, hb⟩
  · by_cases h1 : 65535 < k
    · have HF := Lib.hid (show lputE k 2 = 1 ∧ lputL l k 2 = l by unfold lputE lputL; rw [if_neg (by omega), if_neg (by omega)]; exact ⟨rfl, rfl⟩)
      go_enter Tryz.func43, Tryz.ntmps43
      go_wp2_with fail
      refine (clone_any h hB (by omega)).mono ?_
      rintro e w1 ⟨v', rfl, ho, hb⟩
      go_wp2
      go_ret2
      rw [HF.out.1, HF.out.2, hl.out]
      exact ⟨_, rfl, ho, hb⟩
    · obtain ⟨q, rfl⟩ := Int.eq_ofNat_of_zero_le (show 0 ≤ k by omega)
      have HF := Lib.hid (show lputE q 2 = 0 ∧ lputL l q 2 = l ++ lowB q 2 by unfold lputE lputL; rw [if_pos (by omega), if_pos (by omega)]; exact ⟨rfl, by simp⟩)
      go_enter Tryz.func43, Tryz.ntmps43
      go_wp2_with fail
      refine (lput_any (v := q) (s := 2) h hB hn (by omega) (by omega)).mono ?_
      rintro e w1 ⟨v', rfl, ho, hb⟩
      go_wp2
      go_ret2
      rw [HF.out.1, HF.out.2, List.length_append, lowB_len, hl.out]
      exact ⟨_, rfl, ho, hb⟩
theorem lput32_any {w : World} {B n c : Nat} {k : Int} {A : Option Addr} {l : List UInt8} (h : Rd w B 1 A n (l.map bv)) (hB : B ≤ w.heap.size) (hn : n ≤ 1000) :
    Calls Tryz.prog 44 #[.slice A n c, .int .i64 k] w fun e w' => ∃ v', e = .returned (.tuple #[v', .int .i64 (lputE k 4)]) ∧ w'.ownsRow w.heap.size 5 1 v' (lputL l k 4).length ((lputL l k 4).map bv) ∧ Below w.heap.size w w' := by
  have hl := Lib.hid h.blen
  by_cases h0 : k < 0
  · have HF := Lib.hid (show lputE k 4 = 1 ∧ lputL l k 4 = l by unfold lputE lputL; rw [if_neg (by omega), if_neg (by omega)]; exact ⟨rfl, rfl⟩)
    go_enter Tryz.func44, Tryz.ntmps44
    go_wp2_with fail
    refine (clone_any h hB (by omega)).mono ?_
    rintro e w1 ⟨v', rfl, ho, hb⟩
    go_wp2
    go_ret2
    rw [HF.out.1, HF.out.2, hl.out]
    exact ⟨_, rfl, ho, hb⟩
  · by_cases h1 : 4294967295 < k
    · have HF := Lib.hid (show lputE k 4 = 1 ∧ lputL l k 4 = l by unfold lputE lputL; rw [if_neg (by omega), if_neg (by omega)]; exact ⟨rfl, rfl⟩)
      go_enter Tryz.func44, Tryz.ntmps44
      go_wp2_with fail
      refine (clone_any h hB (by omega)).mono ?_
      rintro e w1 ⟨v', rfl, ho, hb⟩
      go_wp2
      go_ret2
      rw [HF.out.1, HF.out.2, hl.out]
      exact ⟨_, rfl, ho, hb⟩
    · obtain ⟨q, rfl⟩ := Int.eq_ofNat_of_zero_le (show 0 ≤ k by omega)
      have HF := Lib.hid (show lputE q 4 = 0 ∧ lputL l q 4 = l ++ lowB q 4 by unfold lputE lputL; rw [if_pos (by omega), if_pos (by omega)]; exact ⟨rfl, by simp⟩)
      go_enter Tryz.func44, Tryz.ntmps44
      go_wp2_with fail
      refine (lput_any (v := q) (s := 4) h hB hn (by omega) (by omega)).mono ?_
      rintro e w1 ⟨v', rfl, ho, hb⟩
      go_wp2
      go_ret2
      rw [HF.out.1, HF.out.2, List.length_append, lowB_len, hl.out]
      exact ⟨_, rfl, ho, hb⟩

end Go.Proofs.YtllcecnkbndokaaGreatDoor
