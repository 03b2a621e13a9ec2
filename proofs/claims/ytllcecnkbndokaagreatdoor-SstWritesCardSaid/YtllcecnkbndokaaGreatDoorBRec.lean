/- cashbookref7.PutLow by its contract. Condition: the bytes read as such, and are no more than a thousand. -/
/- cashbookref7.CheckRec, CutRec, SameRec (of records alike) by their contracts. Conditions: the records' slices read as lists. -/
import Derived.Test.YtllcecnkbndokaaGreatDoorLePut
import Derived.Test.YtllcecnkbndokaaGreatDoorCut7
import Derived.Test.YtllcecnkbndokaaGreatDoorSame7
namespace Go.Proofs.YtllcecnkbndokaaGreatDoor
open Go.RowKit Go.Lib

set_option maxHeartbeats 1000000 in
theorem putLow_any {w : World} {B n c v s : Nat} {A : Option Addr} {l : List UInt8} (h : Rd w B 1 A n (l.map bv)) (hB : B ≤ w.heap.size) (hn : n ≤ 1000) (hs : s ≤ 8) :
    Calls Tryz.prog 27 #[.slice A n c, .int .u64 v, .int .i64 s] w fun e w' => ∃ v', e = .returned v' ∧ w'.ownsRow w.heap.size 5 1 v' (n + s) ((l ++ lowB v s).map bv) ∧ Below w.heap.size w w' := by
  go_enter Tryz.func27, Tryz.ntmps27
  go_wp2_with (at_builtin; refine wpList_app bytesRow rfl (.tmp 9) (.tmp 10) rfl rfl rfl (World.ownsRow_made (base := w.heap.size) (size := 1) w #[] 0 (Nat.le_refl _) (by simp [maxLen]) (by simp)) (h.belowMono ((Below.refl w.heap.size w).alloc (Nat.le_refl _) _) hB) (bv_one _) ?_ ?_ ?_ ?_)
  · unfold maxLen; omega
  · omega
  · simp
  intro v1 w1 o1 _ b1
  have b1' := ((Below.refl w.heap.size w).alloc (Nat.le_refl _) _).trans b1
  try simp only [Nat.zero_add, List.nil_append] at o1
  clear b1
  go_wp2
  go_loopw [7, 8] (fun out i wr => ∃ (k : Nat) (L : List UInt8), k ≤ s ∧ i = .int .i64 k ∧ wr.ownsRow w.heap.size 5 1 out (n + k) (L.map bv) ∧ Below w.heap.size w wr ∧ Hid (L = l ++ lowB v k)) (fun _ i _ => s - (intOf i).toNat)
  case atStart => exact ⟨0, l, Nat.zero_le _, rfl, o1, b1', Lib.hid (by simp [lowB])⟩
  case round =>
    obtain ⟨k, L, hk, rfl, ho, hbel, HL⟩ := hrel
    have hsz := hbel.size
    by_cases hks : k < s
    · have hks' : (k : Int) < (s : Int) := by omega
      go_wp2_with (at_builtin; refine wpList_app bytesRow rfl (.tmp 17) (.tmp 24) rfl rfl rfl (ho.alloc _) (Rd.fresh _ _ 1 1 _ rfl) ?_ ?_ ?_ ?_ ?_)
      · intro u hu; simp at hu; subst hu; rfl
      · unfold maxLen; omega
      · omega
      · simp; omega
      intro v2 w2 o2 _ b2
      have b2' := hbel.trans (((Below.refl w.heap.size wr).alloc hsz _).trans b2)
      have HL2 : Hid (L ++ [UInt8.ofNat (v / 256 ^ k)] = l ++ lowB v (k + 1)) := Lib.hid (by rw [HL.out, lowB, List.append_assoc])
      have o3 : w2.ownsRow w.heap.size 5 1 v2 (n + (k + 1)) ((L ++ [UInt8.ofNat (v / 256 ^ k)]).map bv) := by
        rw [List.map_append, List.map_cons, List.map_nil, bv_ofNat]
        rw [show ((v / 256 ^ k : Nat) : Int) = (v : Int) / 2 ^ (8 * k) by rw [pow_bytes]; simp]
        exact o2
      clear o2 b2 ho
      go_wp2
      go_roundw
      case rel => exact ⟨k + 1, _, by omega, by go_num, o3, b2', HL2⟩
      case measure => simp [intOf]; omega
    · obtain rfl : k = s := by omega
      have hks' : ¬ (k : Int) < (k : Int) := by omega
      go_wp2
      go_ret
      rw [HL.out, List.map_append] at ho
      exact ⟨_, rfl, ho, hbel⟩
end Go.Proofs.YtllcecnkbndokaaGreatDoor
namespace Go.Proofs.YtllcecnkbndokaaGreatDoor
open Go.RowKit Go.Lib

def shortB (q size : Int) : List Int → Prop
  | [] => size - q ≤ 224
  | c :: r => c - q ≤ 224 ∧ shortB c size r
theorem longM_short {size : Int} : ∀ (l : List Int) (m q : Int), longM m q size l ≤ 224 ↔ m ≤ 224 ∧ shortB q size l
  | [], m, q => by simp only [longM, shortB]; omega
  | c :: r, m, q => by simp only [longM, shortB]; rw [longM_short r, Int.max_le, and_assoc]

theorem sameRec_any {w : World} {B : Nat} {r s : RecM} {D C D' C' : Option Addr} {dc cc dc' cc' : Nat} (h : RecRd w B r D dc C cc) (h' : RecRd w B s D' dc' C' cc') (hB : B ≤ w.heap.size)
    (ht : r.type = s.type) (hd : r.data = s.data) (hc : r.cuts = s.cuts) :
    Calls Tryz.prog 10 #[.agg #[.int .i64 r.type, .slice D r.data.length dc, .slice C r.cuts.length cc, .int .i64 r.at_],
        .agg #[.int .i64 s.type, .slice D' s.data.length dc', .slice C' s.cuts.length cc', .int .i64 s.at_]] w fun e w' => e = .returned (.bool true) ∧ Below w.heap.size w w' := by
  obtain ⟨t, data, cuts, at_⟩ := r
  obtain ⟨t', data', cuts', at'⟩ := s
  simp only at *
  subst ht hd hc
  have hbel : ∀ o o', Below w.heap.size w ((w.alloc o).alloc o') := fun o o' => ((Below.refl _ _).alloc (Nat.le_refl _) o).alloc (by simp) o'
  have l1 := h.ccap
  have l2 := h'.ccap
  have e1 := fun o o' => run_str (c := dc) (h.data.belowMono (hbel o o') hB)
  have e2 := fun o o' => run_str (c := dc') (h'.data.belowMono (hbel o o') hB)
  have q3 := fun o o' => h.cuts.belowMono (hbel o o') hB
  have q4 := fun o o' => h'.cuts.belowMono (hbel o o') hB
  clear h h'
  simp only at *
  generalize data.length = dn at *
  generalize cuts.length = cn at *
  have s1 := e1 (.cells #[.int .i64 t, .slice D dn dc, .slice C cn cc, .int .i64 at_] 36) (.cells #[.int .i64 t, .slice D' dn dc', .slice C' cn cc', .int .i64 at'] 36)
  have s2 := e2 (.cells #[.int .i64 t, .slice D dn dc, .slice C cn cc, .int .i64 at_] 36) (.cells #[.int .i64 t, .slice D' dn dc', .slice C' cn cc', .int .i64 at'] 36)
  have s3 := q3 (.cells #[.int .i64 t, .slice D dn dc, .slice C cn cc, .int .i64 at_] 36) (.cells #[.int .i64 t, .slice D' dn dc', .slice C' cn cc', .int .i64 at'] 36)
  have s4 := q4 (.cells #[.int .i64 t, .slice D dn dc, .slice C cn cc, .int .i64 at_] 36) (.cells #[.int .i64 t, .slice D' dn dc', .slice C' cn cc', .int .i64 at'] 36)
  have hbl := hbel (.cells #[.int .i64 t, .slice D dn dc, .slice C cn cc, .int .i64 at_] 36) (.cells #[.int .i64 t, .slice D' dn dc', .slice C' cn cc', .int .i64 at'] 36)
  clear e1 e2 q3 q4 hbel
  go_enter Tryz.func10, Tryz.ntmps10
  go_wp2
  have ka : Bk ((w.alloc (.cells #[.int .i64 t, .slice D dn dc, .slice C cn cc, .int .i64 at_] 36)).alloc (.cells #[.int .i64 t, .slice D' dn dc', .slice C' cn cc', .int .i64 at'] 36)) w.heap.size 36 #[.int .i64 t, .slice D dn dc, .slice C cn cc, .int .i64 at_] := (Bk.new w _ _).alloc _
  have kb : Bk ((w.alloc (.cells #[.int .i64 t, .slice D dn dc, .slice C cn cc, .int .i64 at_] 36)).alloc (.cells #[.int .i64 t, .slice D' dn dc', .slice C' cn cc', .int .i64 at'] 36)) (w.heap.size + 1) 36 #[.int .i64 t, .slice D' dn dc', .slice C' cn cc', .int .i64 at'] := by simpa using Bk.new (w.alloc _) 36 _
  clear s1 s2
  generalize (w.alloc (.cells #[.int .i64 t, .slice D dn dc, .slice C cn cc, .int .i64 at_] 36)).alloc (.cells #[.int .i64 t, .slice D' dn dc', .slice C' cn cc', .int .i64 at'] 36) = W at *
  have a2 : W.cell? ⟨w.heap.size, 2, none⟩ = some (.slice C cn cc) := ka.cell 2
  have b2 : W.cell? ⟨w.heap.size + 1, 2, none⟩ = some (.slice C' cn cc') := kb.cell 2
  clear ka kb
  go_loopw [5] (fun i wr => ∃ k d : Nat, k ≤ cn ∧ i = .int .i64 k ∧ wr = W.drewN d) (fun i _ => cn - (intOf i).toNat)
  case atStart => exact ⟨0, 0, Nat.zero_le _, rfl, rfl⟩
  case round =>
    obtain ⟨k, d, hk, rfl, rfl⟩ := hrel
    by_cases hkn : k < cn
    · obtain ⟨a, x, rfl, _, hc, hx, _⟩ := s3.intAt hkn
      obtain ⟨a', y, rfl, _, hc', hy, _⟩ := s4.intAt hkn
      have hkn' : (k : Int) < (cn : Int) := by omega
      have hxy : x = y := by rw [hx] at hy; injection hy
      subst hxy
      clear hx hy s3 s4
      go_wp2
      go_quiet (fail)
      go_wp2
      go_roundw
      case rel => exact ⟨k + 1, _, by omega, by go_num, rfl⟩
      case measure => simp [intOf]; omega
    · have hkk : k = cn := by omega
      subst hkk
      clear s3 s4
      go_wp2
      go_ret
      exact ⟨rfl, below_drewN hbl d⟩

set_option maxHeartbeats 1000000 in
theorem checkRec_any {w : World} {B : Nat} {r : RecM} {D C : Option Addr} {dc cc : Nat} (h : RecRd w B r D dc C cc) (hB : B ≤ w.heap.size) :
    Calls Tryz.prog 28 #[.agg #[.int .i64 r.type, .slice D r.data.length dc, .slice C r.cuts.length cc, .int .i64 r.at_]] w fun e w' => e = .returned (.int .i64 (checkM r)) ∧ Below w.heap.size w w' := by
  obtain ⟨hd, hc, ⟨d0, d1⟩, ⟨c0, c1⟩, ⟨f0, f1⟩⟩ := h
  obtain ⟨t, data, cuts, at_⟩ := r
  simp only at *
  generalize hdn : data.length = dn at *
  generalize hcn : cuts.length = cn at *
  have HD := Lib.hid hdn
  have HN := Lib.hid hcn
  have c2 : cn ≤ 1000000000000000000 := by omega
  clear hdn hcn
  by_cases h1 : t < 0
  · go_enter Tryz.func28, Tryz.ntmps28
    go_wp2
    go_ret
    exact ⟨by simp [checkM, h1], (Below.refl _ _).alloc (Nat.le_refl _) _⟩
  by_cases h2 : 65535 < t
  · go_enter Tryz.func28, Tryz.ntmps28
    go_wp2
    go_ret
    exact ⟨by simp [checkM, h2], (Below.refl _ _).alloc (Nat.le_refl _) _⟩
  by_cases h3 : t = 60
  · have HT := Lib.hid h3
    have h3' : (t == 60) = true := by simp [h3]
    clear h3
    go_enter Tryz.func28, Tryz.ntmps28
    go_wp2
    go_ret
    exact ⟨by simp [checkM, HT.out], (Below.refl _ _).alloc (Nat.le_refl _) _⟩
  have h3' : (t == 60) = false := by simpa using h3
  by_cases h4 : 65536 < dn
  · have h4' : (65536 : Int) < (dn : Int) := by omega
    go_enter Tryz.func28, Tryz.ntmps28
    go_wp2
    go_ret
    exact ⟨by simp [checkM, h1, h2, h3, HD.out, h4], (Below.refl _ _).alloc (Nat.le_refl _) _⟩
  have h4' : ¬ (65536 : Int) < (dn : Int) := by omega
  have HF : Hid (checkM ⟨t, data, cuts, at_⟩ = if riseB 0 dn cuts = false then 6 else if 224 < longM 0 0 dn cuts then 4 else 0) := Lib.hid (by simp [checkM, h1, h2, h3, HD.out, h4])
  go_enter Tryz.func28, Tryz.ntmps28
  go_wp2
  have hbl : Below w.heap.size w (w.alloc (.cells #[.int .i64 t, .slice D dn dc, .slice C cn cc, .int .i64 at_] 36)) := (Below.refl _ _).alloc (Nat.le_refl _) _
  have ka : Bk (w.alloc (.cells #[.int .i64 t, .slice D dn dc, .slice C cn cc, .int .i64 at_] 36)) w.heap.size 36 #[.int .i64 t, .slice D dn dc, .slice C cn cc, .int .i64 at_] := Bk.new w _ _
  have hcW := hc.belowMono hbl hB
  generalize w.alloc (.cells #[.int .i64 t, .slice D dn dc, .slice C cn cc, .int .i64 at_] 36) = W at *
  have a1 : W.cell? ⟨w.heap.size, 1, none⟩ = some (.slice D dn dc) := ka.cell 1
  have a2 : W.cell? ⟨w.heap.size, 2, none⟩ = some (.slice C cn cc) := ka.cell 2
  clear ka hc hd
  go_loopw [3, 4] (fun last i wr => ∃ (k d : Nat) (q : Int), k ≤ cn ∧ i = .int .i64 k ∧ last = .int .i64 q ∧ wr = W.drewN d ∧ Hid (riseB 0 dn cuts = riseB q dn (cuts.drop k))) (fun _ i _ => cn - (intOf i).toNat)
  case atStart => exact ⟨0, 0, 0, Nat.zero_le _, rfl, rfl, rfl, Lib.hid rfl⟩
  case round =>
    obtain ⟨k, d, q, hk, rfl, rfl, rfl, HE⟩ := hrel
    by_cases hkn : k < cn
    · obtain ⟨a, x, rfl, _, hx, _, hdr⟩ := hcW.intAt hkn
      have HE1 : Hid (riseB 0 dn cuts = riseB q dn (x :: cuts.drop (k + 1))) := Lib.hid (by rw [HE.out, hdr])
      clear hdr HE hcW
      have hkn' : (k : Int) < (cn : Int) := by omega
      by_cases x1 : x ≤ q
      · have hb : decide (x ≤ q) = true := by simpa using x1
        have HZ : Hid (checkM ⟨t, data, cuts, at_⟩ = 6) := Lib.hid (by rw [HF.out, if_pos (by rw [HE1.out]; simp [riseB, x1])])
        clear HF HE1
        go_wp2
        go_quiet (fail)
        go_wp2
        go_ret
        exact ⟨by rw [HZ.out]; rfl, below_drewN (below_drewN hbl _) _⟩
      · have hb : decide (x ≤ q) = false := by simpa using x1
        by_cases x2 : (dn : Int) ≤ x
        · have hb2 : decide ((dn : Int) ≤ x) = true := by simpa using x2
          have HZ : Hid (checkM ⟨t, data, cuts, at_⟩ = 6) := Lib.hid (by rw [HF.out, if_pos (by rw [HE1.out]; simp [riseB, x2])])
          clear HF HE1
          go_wp2
          go_quiet (fail)
          go_wp2
          go_ret
          exact ⟨by rw [HZ.out]; rfl, below_drewN (below_drewN hbl _) _⟩
        · have hb2 : decide ((dn : Int) ≤ x) = false := by simpa using x2
          have HE2 : Hid (riseB 0 dn cuts = riseB x dn (cuts.drop (k + 1))) := Lib.hid (by rw [HE1.out]; simp [riseB, x1, x2])
          clear HE1
          go_wp2
          go_quiet (fail)
          go_wp2
          go_roundw
          case rel => exact ⟨k + 1, _, x, by omega, by go_num, rfl, rfl, HE2⟩
          case measure => simp [intOf]; omega
    · have hkk : k = cn := by omega
      subst hkk
      have hrise : riseB 0 dn cuts = true := by rw [HE.out, List.drop_eq_nil_of_le (by rw [HN.out]; exact Nat.le_refl _)]; rfl
      have HR := Lib.hid hrise
      have hl := longM_short (size := dn) cuts 0 0
      have HG0 : Hid (shortB 0 dn cuts → checkM ⟨t, data, cuts, at_⟩ = 0) := Lib.hid fun hs => by
        rw [HF.out, if_neg (by rw [hrise]; simp), if_neg (by have := hl.2 ⟨by omega, hs⟩; omega)]
      have HG4 : Hid (¬ shortB 0 dn cuts → checkM ⟨t, data, cuts, at_⟩ = 4) := Lib.hid fun hs => by
        rw [HF.out, if_neg (by rw [hrise]; simp), if_pos]
        rcases Int.lt_or_le 224 (longM 0 0 dn cuts) with h | h
        · exact h
        · exact absurd (hl.1 h).2 hs
      clear HF HE hrise hl
      go_wp2
      go_loopw [3, 5] (fun last i wr => ∃ (m : Nat) (q : Int), m ≤ k ∧ i = .int .i64 m ∧ last = .int .i64 q ∧ 0 ≤ q ∧ q ≤ dn ∧ wr = W.drewN d ∧ Hid (shortB 0 dn cuts ↔ shortB q dn (cuts.drop m)) ∧ Hid (riseB q dn (cuts.drop m) = true)) (fun _ i _ => k - (intOf i).toNat)
      case atStart => exact ⟨0, 0, Nat.zero_le _, rfl, rfl, Int.le_refl _, by omega, rfl, Lib.hid Iff.rfl, HR⟩
      case round =>
        obtain ⟨m, q, hm, rfl, rfl, q0, q1, rfl, HS, HR2⟩ := hrel
        by_cases hmk : m < k
        · obtain ⟨a, x, rfl, _, hx, _, hdr⟩ := hcW.intAt hmk
          have HS1 : Hid (shortB 0 dn cuts ↔ x - q ≤ 224 ∧ shortB x dn (cuts.drop (m + 1))) := Lib.hid (by rw [HS.out, hdr]; exact Iff.rfl)
          have hr2 := HR2.out
          rw [hdr] at hr2
          obtain ⟨x0, x1, hr3⟩ := riseB_cons hr2
          have HR3 := Lib.hid hr3
          have hmk' : (m : Int) < (k : Int) := by omega
          clear hdr HS hcW hr2 hr3 HR2 HR
          by_cases hlong : 224 < x - q
          · have HZ := Lib.hid (HG4.out fun h => by have := (HS1.out.1 h).1; omega)
            clear HG0 HG4 HS1
            go_wp2
            go_ret
            exact ⟨by rw [HZ.out]; rfl, below_drewN hbl _⟩
          · have HS2 : Hid (shortB 0 dn cuts ↔ shortB x dn (cuts.drop (m + 1))) := Lib.hid (by rw [HS1.out]; exact ⟨fun h => h.2, fun h => ⟨by omega, h⟩⟩)
            clear HS1 HG0 HG4
            go_wp2
            go_roundw
            case rel => exact ⟨m + 1, x, by omega, by go_num, rfl, by omega, by omega, by first | rfl | trivial, HS2, HR3⟩
            case measure => simp [intOf]; omega
        · have hmk' : ¬ (m : Int) < (k : Int) := by omega
          have HS1 : Hid (shortB 0 dn cuts ↔ (dn : Int) - q ≤ 224) := Lib.hid (by rw [HS.out, List.drop_eq_nil_of_le (by rw [HN.out]; omega)]; exact Iff.rfl)
          clear HS hcW HR2 HR
          by_cases hlong : 224 < (dn : Int) - q
          · have HZ := Lib.hid (HG4.out fun h => by have := HS1.out.1 h; omega)
            clear HG0 HG4 HS1
            go_wp2
            go_ret
            exact ⟨by rw [HZ.out]; rfl, below_drewN hbl _⟩
          · have HZ := Lib.hid (HG0.out (HS1.out.2 (by omega)))
            clear HG0 HG4 HS1
            go_wp2
            go_ret
            exact ⟨by rw [HZ.out]; rfl, below_drewN hbl _⟩

structure CutR (w : World) (t at_ : Int) (D : Option Addr) (dn dc k : Nat) (cv : Value) (W : World) : Prop where
  box : Bk W w.heap.size 36 #[.int .i64 t, .slice D dn dc, cv, .int .i64 at_]
  res : Bk W (w.heap.size + 1) 36 #[.int .i64 0, .slice none 0 0, .slice none 0 0, .int .i64 0]
  own : W.ownsRow (w.heap.size + 2) 3 1 cv k ((cutsK k).map iv)
  bel : Below w.heap.size w W

theorem Bk.other {w : World} {g : Nat} {t : TypeId} {cs : Array Value} (h : Bk w g t cs) {p : Addr} (hp : p.block ≠ g) (u : Value) : Bk (w.setCell p u) g t cs := by
  unfold Bk at *
  rw [Below.heap_setCell _ _ _ _ hp.symm, h]

set_option maxHeartbeats 2000000 in
theorem cutRec_any {w : World} {r : RecM} {D C : Option Addr} {dc cc : Nat} (hn : r.data.length ≤ 1000000000) :
    Calls Tryz.prog 29 #[.agg #[.int .i64 r.type, .slice D r.data.length dc, .slice C r.cuts.length cc, .int .i64 r.at_]] w fun e w' =>
      ∃ cv, e = .returned (.agg #[.int .i64 r.type, .slice D r.data.length dc, cv, .int .i64 r.at_]) ∧
        w'.ownsRow w.heap.size 3 1 cv ((r.data.length - 1) / 224) ((cutsK ((r.data.length - 1) / 224)).map iv) ∧ Below w.heap.size w w' := by
  obtain ⟨t, data, cuts, at_⟩ := r
  simp only at *
  generalize data.length = dn at *
  generalize cuts.length = cn at *
  go_enter Tryz.func29, Tryz.ntmps29
  go_wp2
  go_loopw [3] (fun i wr => ∃ (k : Nat) (cv : Value), i = .int .i64 (224 * ((k : Int) + 1)) ∧ (k = 0 ∨ 224 * k < dn) ∧ CutR w t at_ D dn dc k cv wr) (fun i _ => dn - (intOf i).toNat + 224)
  case atStart =>
    refine ⟨0, .slice none 0 0, rfl, .inl rfl, ?_, ?_, World.ownsRow_nil _ _ _ _, ?_⟩
    · exact (Bk.new w _ _).alloc _
    · simpa using Bk.new (w.alloc _) 36 _
    · exact ((Below.refl _ _).alloc (Nat.le_refl _) _).alloc (by simp) _
  case round =>
    obtain ⟨k, cv, rfl, hk, I⟩ := hrel
    have c0 : wr.cell? ⟨w.heap.size, 0, none⟩ = some (.int .i64 t) := I.box.cell 0
    have c1 : wr.cell? ⟨w.heap.size, 1, none⟩ = some (.slice D dn dc) := I.box.cell 1
    have c2 : wr.cell? ⟨w.heap.size, 2, none⟩ = some cv := I.box.cell 2
    have c3 : wr.cell? ⟨w.heap.size, 3, none⟩ = some (.int .i64 at_) := I.box.cell 3
    have z2 := I.box.frozen 2
    have hsz := I.res.lt
    obtain ⟨Cv, cvc, rfl, -, -, -⟩ := own_form I.own
    by_cases hlt : 224 * (k + 1) < dn
    · have hlt' : 224 * ((k : Int) + 1) < (dn : Int) := by omega
      have kb : ∀ o, Bk (wr.alloc o) w.heap.size 36 #[.int .i64 t, .slice D dn dc, .slice Cv k cvc, .int .i64 at_] := fun o => I.box.alloc o
      have c2' : ∀ o, (wr.alloc o).cell? ⟨w.heap.size, 2, none⟩ = some (.slice Cv k cvc) := fun o => (kb o).cell 2
      go_wp2_with (at_builtin; refine wpList_app intsRow rfl (.tmp 13) (.tmp 15) rfl rfl rfl (I.own.alloc _) (Rd.fresh _ _ 1 1 _ rfl) ?_ ?_ ?_ ?_ ?_)
      · intro u hu; simp at hu; subst hu; rfl
      · unfold maxLen; omega
      · omega
      · simp; omega
      · intro v' w' ho _ hbel
        have b1 : Below (w.heap.size + 2) wr w' := ((Below.refl _ _).alloc (by omega) _).trans hbel
        have k1 := I.box.below b1 (by omega)
        have k2 := I.res.below b1 (by omega)
        have d2 : w'.cell? ⟨w.heap.size, 2, none⟩ = some (.slice Cv k cvc) := k1.cell 2
        have y2 := k1.frozen 2
        have bw := I.bel.trans (b1.mono (by omega))
        obtain ⟨Cv', cvc', rfl, -, -, -⟩ := own_form ho
        clear c0 c1 c2 c3 c2'
        go_wp2
        go_roundw
        case rel =>
          refine ⟨k + 1, .slice Cv' (k + 1) cvc', by go_num, .inr (by omega), ?_, k2.other (by show w.heap.size ≠ w.heap.size + 1; omega) _, ?_, bw.setCell (p := ⟨w.heap.size, 2, none⟩) (Nat.le_refl _) _⟩
          · have := k1.set_ 2 (.slice Cv' (k + 1) cvc')
            simpa using this
          · rw [cutsK_succ, List.map_append]
            exact ownsRow_setCell_below ho (a := ⟨w.heap.size, 2, none⟩) (by show w.heap.size < _; omega) _
        case measure => simp [intOf]; omega
    · have hlt' : ¬ 224 * ((k : Int) + 1) < (dn : Int) := by omega
      have hkk : (dn - 1) / 224 = k := by omega
      have HK := Lib.hid hkk
      clear hkk
      have r0 : wr.cell? ⟨w.heap.size + 1, 0, none⟩ = some (.int .i64 0) := I.res.cell 0
      have r1 : wr.cell? ⟨w.heap.size + 1, 1, none⟩ = some (.slice none 0 0) := I.res.cell 1
      have r2 : wr.cell? ⟨w.heap.size + 1, 2, none⟩ = some (.slice none 0 0) := I.res.cell 2
      have r3 : wr.cell? ⟨w.heap.size + 1, 3, none⟩ = some (.int .i64 0) := I.res.cell 3
      have y0 := I.res.frozen 0
      have y1 := I.res.frozen 1
      have y2 := I.res.frozen 2
      have y3 := I.res.frozen 3
      go_wp2
      have kr := (((I.res.set_ 0 (.int .i64 t)).set_ 1 (.slice D dn dc)).set_ 2 (.slice Cv k cvc)).set_ 3 (.int .i64 at_)
      have ho' := ownsRow_setCell_below (ownsRow_setCell_below (ownsRow_setCell_below (ownsRow_setCell_below I.own (a := ⟨w.heap.size + 1, 0, none⟩) (by show _ + 1 < _ + 2; omega) (.int .i64 t)) (a := ⟨w.heap.size + 1, 1, none⟩) (by show _ + 1 < _ + 2; omega) (.slice D dn dc)) (a := ⟨w.heap.size + 1, 2, none⟩) (by show _ + 1 < _ + 2; omega) (.slice Cv k cvc)) (a := ⟨w.heap.size + 1, 3, none⟩) (by show _ + 1 < _ + 2; omega) (.int .i64 at_)
      have bl := (((I.bel.setCell (p := ⟨w.heap.size + 1, 0, none⟩) (by show _ ≤ _ + 1; omega) (.int .i64 t)).setCell (p := ⟨w.heap.size + 1, 1, none⟩) (by show _ ≤ _ + 1; omega) (.slice D dn dc)).setCell (p := ⟨w.heap.size + 1, 2, none⟩) (by show _ ≤ _ + 1; omega) (.slice Cv k cvc)).setCell (p := ⟨w.heap.size + 1, 3, none⟩) (by show _ ≤ _ + 1; omega) (.int .i64 at_)
      refine bodyPost_ret (v := .agg #[.int .i64 t, .slice D dn dc, .slice Cv k cvc, .int .i64 at_]) ?_ rfl ⟨_, rfl, ?_, bl⟩
      · simp [results, Tryz.results29, go_sem, r0, r1, r2, r3]
      · rw [HK.out]
        exact own_mono ho' (by omega)
end Go.Proofs.YtllcecnkbndokaaGreatDoor
