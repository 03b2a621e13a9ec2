/- bytes.Clone, le.put, cashbookref7.PutLow by their contracts. Condition: the bytes read as such, and are no more than a thousand. -/
import Derived.Test.YtlfnmcagpokchaaNum
namespace Go.Proofs.Ytlfnmcagpokchaa
open Go.RowKit

def zs (n : Nat) : Array Value := ((List.replicate n (0 : UInt8)).map bv).toArray

theorem made_one' (x : Value) (n : Nat) : madeCells #[x] (n * 1) = (List.replicate n x).toArray := by
  refine Array.toList_inj.1 (List.ext_getElem? fun i => ?_)
  simp only [madeCells, Nat.mul_one, List.size_toArray, List.length_cons, List.length_nil, Nat.zero_add, Nat.mod_one, Array.toList_map, List.getElem?_map]
  simp only [Array.toList_range, List.getElem?_replicate]
  by_cases h : i < n <;> simp [h]

theorem run_make_room (n s : Nat) (hn : n + s ≤ 1000000) (W : World) : (Instr.makeSlice 22 (.int .i64 0) (.int .i64 ((n : Int) + (s : Int)))).run Try.prog W = .ok (.slice (some ⟨W.heap.size, 0, none⟩) 0 (n + s)) (W.alloc (.cells (zs (n + s)) 5)) := by
  obtain ⟨i, hi, h0, h1, h2⟩ := bytesRow.info
  have h := run_make (P := Try.prog) W 22 5 i _ bytesRow.under hi h0 .i64 .i64 0 ((n + s : Nat) : Int) (by omega) (by omega) (by rw [h2]; omega) (by omega)
  rw [show ((n : Int) + (s : Int)) = ((n + s : Nat) : Int) by omega, h, h1, Int.toNat_natCast]
  have e : madeCells (Value.int .u8 0).cells ((n + s) * 1) = zs (n + s) := by
    show madeCells #[Value.int .u8 0] ((n + s) * 1) = _
    rw [made_one', zs, List.map_replicate]
    rfl
  rw [e]
  rfl

theorem zs_size (n : Nat) : (zs n).size = n := by simp [zs]

theorem clone_any {w : World} {B n c : Nat} {A : Option Addr} {l : List UInt8} (h : Rd w B 1 A n (l.map bv)) (hB : B ≤ w.heap.size) (hn : n ≤ 140737488355328) :
    Calls Try.prog 25 #[.slice A n c] w fun e w' => ∃ v', e = .returned v' ∧ w'.ownsRow w.heap.size 5 1 v' n (l.map bv) ∧ Below w.heap.size w w' := by
  have he := fun W => Lib.run_eql_slice_nil (P := Try.prog) W 22 5 A n c 0 0 Try.underlying22
  cases A with
  | none =>
    have hn0 : n = 0 := by
      rcases Nat.eq_zero_or_pos n with h0 | h0
      · exact h0
      · obtain ⟨a, ha, _⟩ := h.at_ h0; cases ha
    subst hn0
    have hl : l = [] := List.eq_nil_of_length_eq_zero h.blen
    subst hl
    go_enter Try.func25, Try.ntmps25
    go_wp2
    go_ret
    exact ⟨_, rfl, World.ownsRow_nil _ _ _ _, Below.refl _ _⟩
  | some a =>
    go_enter Try.func25, Try.ntmps25
    go_wp2_with (at_builtin; refine wpList_app bytesRow rfl (.tmp 5) (.tmp 6) rfl rfl rfl (World.ownsRow_made (base := w.heap.size) (size := 1) w #[] 0 (Nat.le_refl _) (by simp [maxLen]) (by simp)) (h.belowMono ((Below.refl w.heap.size w).alloc (Nat.le_refl _) _) hB) (bv_one _) ?_ ?_ ?_ ?_)
    · unfold maxLen; omega
    · omega
    · simp
    · intro v' w' ho _ hbel
      go_wp2
      go_ret
      exact ⟨v', rfl, by simpa using ho, ((Below.refl _ _).alloc (Nat.le_refl _) _).trans hbel⟩

/-- The lowest bytes of a number, so many, the lower first. -/
def lowB (v : Nat) : Nat → List UInt8
  | 0 => []
  | k + 1 => lowB v k ++ [UInt8.ofNat (v / 256 ^ k)]

theorem lowB_len (v k : Nat) : (lowB v k).length = k := by
  induction k with
  | zero => rfl
  | succ k ih => simp [lowB, ih]

theorem numN_lowB (v k : Nat) : numN (lowB v k) = v % 256 ^ k := by
  induction k with
  | zero => simp [lowB, numN, Nat.mod_one]
  | succ k ih =>
    rw [lowB, numN_append, ih, lowB_len, Nat.mod_pow_succ]
    simp [numN]

theorem bv_ofNat (x : Nat) : bv (UInt8.ofNat x) = .int .u8 ((x : Int) % 256) := by
  unfold bv
  rw [UInt8.toNat_ofNat']
  simp

set_option maxHeartbeats 1000000 in
theorem put_any {w : World} {B n c v s : Nat} {A : Option Addr} {l : List UInt8} (h : Rd w B 1 A n (l.map bv)) (hB : B ≤ w.heap.size) (hn : n ≤ 1000) (hv : v < 18446744073709551616) (hs : s ≤ 8) :
    Calls Try.prog 28 #[.slice A n c, .int .u64 v, .int .i64 s] w fun e w' => ∃ v', e = .returned v' ∧ w'.ownsRow w.heap.size 5 1 v' (n + s) ((l ++ lowB v s).map bv) ∧ Below w.heap.size w w' := by
  have hmk := run_make_room n s (by omega)
  have hm := World.ownsRow_made (base := w.heap.size) (size := 1) (e := 5) w (zs (n + s)) (n + s) (Nat.le_refl _) (by unfold maxLen; omega) (by rw [zs_size]; omega)
  have hr1 := h.belowMono ((Below.refl w.heap.size w).alloc (Nat.le_refl _) (.cells (zs (n + s)) 5)) hB
  go_enter Try.func28, Try.ntmps28
  go_wp2_with (at_builtin; refine wpList_app bytesRow rfl (.tmp 13) (.tmp 14) rfl rfl rfl hm hr1 (bv_one _) ?_ ?_ ?_ ?_)
  · unfold maxLen; omega
  · omega
  · simp
  intro v1 w1 o1 _ b1
  have b1' := ((Below.refl w.heap.size w).alloc (Nat.le_refl _) (.cells (zs (n + s)) 5)).trans b1
  try simp only [Nat.zero_add, List.nil_append] at o1
  clear hmk hm hr1 b1
  go_wp2
  go_loopw [1, 7, 17] (fun nv out i wr => ∃ (k q : Nat) (L : List UInt8), k ≤ s ∧ i = .int .i64 k ∧ nv = .int .u64 q ∧ q ≤ v ∧ wr.ownsRow w.heap.size 5 1 out (n + k) (L.map bv) ∧ Below w.heap.size w wr ∧ Hid (q = v / 256 ^ k) ∧ Hid (L = l ++ lowB v k)) (fun _ _ i _ => s - (intOf i).toNat)
  case atStart => exact ⟨0, v, l, Nat.zero_le _, rfl, rfl, Nat.le_refl _, o1, b1', Lib.hid (by simp), Lib.hid (by simp [lowB])⟩
  case round =>
    obtain ⟨k, q, L, hk, rfl, rfl, hq, ho, hbel, HQ, HL⟩ := hrel
    have hsz := hbel.size
    by_cases hks : k < s
    · have hks' : (k : Int) < (s : Int) := by omega
      go_wp2_with (at_builtin; refine wpList_app bytesRow rfl (.tmp 19) (.tmp 22) rfl rfl rfl (ho.alloc _) (Rd.fresh _ _ 1 1 _ rfl) ?_ ?_ ?_ ?_ ?_)
      · intro u hu; simp at hu; subst hu; rfl
      · unfold maxLen; omega
      · omega
      · simp; omega
      intro v2 w2 o2 _ b2
      have b2' := hbel.trans (((Below.refl w.heap.size wr).alloc hsz _).trans b2)
      have HQ2 := Lib.hid (show q / 256 = v / 256 ^ (k + 1) by rw [HQ.out, Nat.pow_succ, Nat.div_div_eq_div_mul])
      have HL2 : Hid (L ++ [UInt8.ofNat q] = l ++ lowB v (k + 1)) := Lib.hid (by rw [HL.out, HQ.out, lowB, List.append_assoc])
      have hqv : q / 256 ≤ v := by omega
      have o3 : w2.ownsRow w.heap.size 5 1 v2 (n + (k + 1)) ((L ++ [UInt8.ofNat q]).map bv) := by
        rw [List.map_append, List.map_cons, List.map_nil, bv_ofNat]
        exact o2
      clear o2 b2 ho
      go_wp2
      go_roundw
      case rel => exact ⟨k + 1, q / 256, _, by omega, by go_num, by simp, hqv, o3, b2', HQ2, HL2⟩
      case measure => simp [intOf]; omega
    · obtain rfl : k = s := by omega
      have hks' : ¬ (k : Int) < (k : Int) := by omega
      go_wp2
      go_ret
      rw [HL.out, List.map_append] at ho
      exact ⟨_, rfl, ho, hbel⟩

set_option maxHeartbeats 1000000 in
theorem putLow_any {w : World} {B n c v s : Nat} {A : Option Addr} {l : List UInt8} (h : Rd w B 1 A n (l.map bv)) (hB : B ≤ w.heap.size) (hn : n ≤ 1000) (hs : s ≤ 8) :
    Calls Try.prog 21 #[.slice A n c, .int .u64 v, .int .i64 s] w fun e w' => ∃ v', e = .returned v' ∧ w'.ownsRow w.heap.size 5 1 v' (n + s) ((l ++ lowB v s).map bv) ∧ Below w.heap.size w w' := by
  go_enter Try.func21, Try.ntmps21
  go_wp2_with (at_builtin; refine wpList_app bytesRow rfl (.tmp 9) (.tmp 10) rfl rfl rfl (World.ownsRow_made (base := w.heap.size) (size := 1) w #[] 0 (Nat.le_refl _) (by simp [maxLen]) (by simp)) (h.belowMono ((Below.refl w.heap.size w).alloc (Nat.le_refl _) _) hB) (bv_one _) ?_ ?_ ?_ ?_)
  · unfold maxLen; omega
  · omega
  · simp
  intro v1 w1 o1 _ b1
  have b1' := ((Below.refl w.heap.size w).alloc (Nat.le_refl _) _).trans b1
  try simp only [Nat.zero_add, List.nil_append] at o1
  clear b1
  go_wp2
  go_loopw [7, 8] (fun out i wr => ∃ (k : Nat) (L : List UInt8), k ≤ s ∧ i = .int .i64 k ∧ wr.ownsRow w.heap.size 5 1 out (n + k) (L.map bv) ∧ Below w.heap.size w wr ∧ Hid (L = l ++ lowB v k)) (fun _ i _ => s - (intOf i).toNat)
  case atStart => exact ⟨0, l, Nat.zero_le _, rfl, o1, b1', Lib.hid (by simp [lowB])⟩
  case round =>
    obtain ⟨k, L, hk, rfl, ho, hbel, HL⟩ := hrel
    have hsz := hbel.size
    by_cases hks : k < s
    · have hks' : (k : Int) < (s : Int) := by omega
      go_wp2_with (at_builtin; refine wpList_app bytesRow rfl (.tmp 17) (.tmp 24) rfl rfl rfl (ho.alloc _) (Rd.fresh _ _ 1 1 _ rfl) ?_ ?_ ?_ ?_ ?_)
      · intro u hu; simp at hu; subst hu; rfl
      · unfold maxLen; omega
      · omega
      · simp; omega
      intro v2 w2 o2 _ b2
      have b2' := hbel.trans (((Below.refl w.heap.size wr).alloc hsz _).trans b2)
      have HL2 : Hid (L ++ [UInt8.ofNat (v / 256 ^ k)] = l ++ lowB v (k + 1)) := Lib.hid (by rw [HL.out, lowB, List.append_assoc])
      have o3 : w2.ownsRow w.heap.size 5 1 v2 (n + (k + 1)) ((L ++ [UInt8.ofNat (v / 256 ^ k)]).map bv) := by
        rw [List.map_append, List.map_cons, List.map_nil, bv_ofNat]
        rw [show ((v / 256 ^ k : Nat) : Int) = (v : Int) / 2 ^ (8 * k) by rw [pow_bytes]; simp]
        exact o2
      clear o2 b2 ho
      go_wp2
      go_roundw
      case rel => exact ⟨k + 1, _, by omega, by go_num, o3, b2', HL2⟩
      case measure => simp [intOf]; omega
    · obtain rfl : k = s := by omega
      have hks' : ¬ (k : Int) < (k : Int) := by omega
      go_wp2
      go_ret
      rw [HL.out, List.map_append] at ho
      exact ⟨_, rfl, ho, hbel⟩
end Go.Proofs.Ytlfnmcagpokchaa
