/- The reference's times by its contract: the product in digits. Condition: no more than a hundred digits each. -/
import Derived.Test.YtgepipapppdhfaaGreatDoorRow7
import Derived.Test.YtgepipapppdhfaaGreatDoorBox
import Derived.Deep.OwnRows
namespace Go.Proofs.YtgepipapppdhfaaGreatDoor
open Go.RowKit

theorem dval_set : ∀ (O : List Nat) (p d : Nat), p < O.length → dval (O.set p d) + 10 ^ p * O.getD p 0 = dval O + 10 ^ p * d
  | [], p, d, h => by simp at h
  | x :: O, 0, d, _ => by simp [dval]; omega
  | x :: O, p + 1, d, h => by
    have ih := dval_set O p d (by simpa using h)
    simp only [List.set_cons_succ, dval, List.getD_cons_succ]
    rw [Nat.pow_succ, Nat.mul_comm (10 ^ p) 10, Nat.mul_assoc, Nat.mul_assoc]
    omega
theorem digs_set {O : List Nat} {p d : Nat} (h : Digs O) (hd : d < 10) : Digs (O.set p d) := fun x hx => by
  rcases List.mem_or_eq_of_mem_set hx with hx | rfl
  · exact h x hx
  · exact hd
/-- One place of one row. -/
theorem times_in {O b : List Nat} {T i k c x n : Nat} (h : dval O + 10 ^ (i + k) * c = T + 10 ^ i * x * dval (b.take k)) (hp : i + k < O.length) (hn : n = c + O.getD (i + k) 0 + x * b.getD k 0) :
    dval (O.set (i + k) (n % 10)) + 10 ^ (i + (k + 1)) * (n / 10) = T + 10 ^ i * x * dval (b.take (k + 1)) := by
  have h1 := dval_set O (i + k) (n % 10) hp
  rw [dval_take_succ, Nat.mul_add]
  have h2 : 10 ^ i * x * (10 ^ k * b.getD k 0) = 10 ^ (i + k) * (x * b.getD k 0) := by
    rw [Nat.pow_add]
    simp only [Nat.mul_assoc, Nat.mul_left_comm, Nat.mul_comm]
  have h3 : 10 ^ (i + (k + 1)) * (n / 10) = 10 ^ (i + k) * (10 * (n / 10)) := by
    rw [← Nat.add_assoc, Nat.pow_succ, Nat.mul_assoc]
  have h4 : 10 ^ (i + k) * n = 10 ^ (i + k) * (n % 10) + 10 ^ (i + k) * (10 * (n / 10)) := by
    rw [← Nat.mul_add, Nat.mod_add_div]
  have h5 : 10 ^ (i + k) * n = 10 ^ (i + k) * c + 10 ^ (i + k) * O.getD (i + k) 0 + 10 ^ (i + k) * (x * b.getD k 0) := by
    rw [hn, Nat.mul_add, Nat.mul_add]
  rw [h2, h3]
  omega
/-- As long as anything is carried there is room. -/
theorem times_bound {O a b : List Nat} {i k c : Nat} (ha : Digs a) (hb : Digs b) (h : dval O + 10 ^ (i + k) * c = dval (a.take i) * dval b + 10 ^ i * a.getD i 0 * dval (b.take k)) (hk : b.length ≤ k) (hc : 0 < c) : k ≤ b.length := by
  rw [dval_take_all hk] at h
  have h1 : dval (a.take i) * dval b + 10 ^ i * a.getD i 0 * dval b = dval (a.take (i + 1)) * dval b := by rw [dval_take_succ, Nat.add_mul]
  rw [h1] at h
  have h2 := dval_lt (ha.take (i + 1))
  have h3 := dval_lt hb
  have h4 : (a.take (i + 1)).length ≤ i + 1 := by rw [List.length_take]; exact Nat.min_le_left _ _
  have h5 : 10 ^ (a.take (i + 1)).length ≤ 10 ^ (i + 1) := Nat.pow_le_pow_right (by omega) h4
  have h6 : dval (a.take (i + 1)) * dval b < 10 ^ (i + 1 + b.length) := by
    rw [Nat.pow_add]
    rcases Nat.eq_zero_or_pos (dval b) with h0 | h0
    · rw [h0, Nat.mul_zero]; exact Nat.mul_pos (Nat.pow_pos (by omega)) (Nat.pow_pos (by omega))
    · exact Nat.lt_of_le_of_lt (Nat.mul_le_mul_right _ (Nat.le_of_lt (Nat.lt_of_lt_of_le h2 h5))) (Nat.mul_lt_mul_of_pos_left h3 (Nat.pow_pos (by omega)))
  have h7 : 10 ^ (i + k) * 1 ≤ 10 ^ (i + k) * c := Nat.mul_le_mul_left _ hc
  have h8 : 10 ^ (i + k) < 10 ^ (i + 1 + b.length) := by omega
  have h9 := (Nat.pow_lt_pow_iff_right (a := 10) (by omega)).1 h8
  omega
theorem times_end {O a b : List Nat} {i k : Nat} (h : dval O + 10 ^ (i + k) * 0 = dval (a.take i) * dval b + 10 ^ i * a.getD i 0 * dval (b.take k)) (hk : b.length ≤ k) : dval O = dval (a.take (i + 1)) * dval b := by
  rw [dval_take_all hk] at h
  rw [dval_take_succ, Nat.add_mul]
  omega
theorem dval_zeros (n : Nat) : dval (List.replicate n 0) = 0 := by
  induction n with
  | zero => rfl
  | succ n ih => rw [List.replicate_succ, dval, ih]
theorem digs_zeros (n : Nat) : Digs (List.replicate n 0) := fun d hd => by rw [(List.mem_replicate.1 hd).2]; omega
theorem carry_le {c x y z : Nat} (hc : c ≤ 9) (hx : x < 10) (hy : y < 10) (hz : z < 10) : (c + z + x * y) / 10 ≤ 9 ∧ c + z + x * y ≤ 99 := by
  have : x * y ≤ 9 * 9 := Nat.mul_le_mul (by omega) (by omega)
  omega

section
/-- What the two factors' boxes, the result's, the product's and its row of digits hold. -/
structure TB (w : World) (A1 A2 : Option Addr) (n c n' c' L : Nat) (sa sb : Bool) (O : List Nat) (W : World) : Prop where
  bel : Below w.heap.size w W
  size : w.heap.size + 5 ≤ W.heap.size
  b0 : Bk W w.heap.size 51 #[.bool sa, .slice A1 n c]
  b1 : Bk W (w.heap.size + 1) 51 #[.bool sb, .slice A2 n' c']
  b2 : Bk W (w.heap.size + 1 + 1) 51 #[.bool false, .slice none 0 0]
  b3 : Bk W (w.heap.size + 1 + 1 + 1) 51 #[.bool (!(sa == sb)), .slice (some ⟨w.heap.size + 1 + 1 + 1 + 1, 0, none⟩) L L]
  row : Bk W (w.heap.size + 1 + 1 + 1 + 1) 3 (dcs O).toArray
  len : O.length = L
variable {w W : World} {A1 A2 : Option Addr} {n c n' c' L : Nat} {sa sb : Bool} {O : List Nat}
theorem TB.at_ (h : TB w A1 A2 n c n' c' L sa sb O W) {p : Nat} (hp : p < L) : W.cell? ⟨w.heap.size + 1 + 1 + 1 + 1, p, none⟩ = some (.int .i64 ((O.getD p 0 : Nat) : Int)) := by
  rw [h.row.cell p]
  have hl := h.len
  subst hl
  simp [dcs, iv, List.getD, List.getElem?_eq_getElem hp]
theorem TB.set (h : TB w A1 A2 n c n' c' L sa sb O W) (p d : Nat) : TB w A1 A2 n c n' c' L sa sb (O.set p d) (W.setCell ⟨w.heap.size + 1 + 1 + 1 + 1, p, none⟩ (.int .i64 (d : Int))) := by
  refine ⟨h.bel.setCell (by simp; omega) _, by simpa [World.setCell] using h.size, h.b0.other (by omega), h.b1.other (by omega), h.b2.other (by omega), h.b3.other (by omega), ?_, by rw [List.length_set]; exact h.len⟩
  have := h.row.set_ p (.int .i64 (d : Int))
  have e : (dcs O).toArray.setIfInBounds p (.int .i64 (d : Int)) = (dcs (O.set p d)).toArray := by
    simp [dcs, iv, List.map_set]
  rw [e] at this
  exact this
theorem TB.drew (h : TB w A1 A2 n c n' c' L sa sb O W) : TB w A1 A2 n c n' c' L sa sb O W.drew := ⟨h.bel.drew, h.size, h.b0, h.b1, h.b2, h.b3, h.row, h.len⟩
theorem TB.rd (h : TB w A1 A2 n c n' c' L sa sb O W) : Rd W W.heap.size 1 (some ⟨w.heap.size + 1 + 1 + 1 + 1, 0, none⟩) L (dcs O) := by
  refine ⟨by rw [dcs_len, h.len, Nat.mul_one], fun _ => ⟨_, rfl, h.row.lt, fun j u hu => ?_⟩⟩
  have hadd : (⟨w.heap.size + 1 + 1 + 1 + 1, 0, none⟩ : Addr).add j = ⟨w.heap.size + 1 + 1 + 1 + 1, j, none⟩ := by unfold Addr.add; split <;> simp_all
  rw [hadd, h.row.cell j]
  simpa using hu
end
theorem made_zeros (L : Nat) : madeCells #[.int .i64 0] L = (dcs (List.replicate L 0)).toArray := by
  apply Array.ext
  · simp [madeCells, dcs]
  · intro i h1 h2
    simp [madeCells, dcs, iv, Nat.mod_one]
theorem sgn_times (V U : Int) : sgn (!(decide (V < 0) == decide (U < 0))) (V.natAbs * U.natAbs) = V * U := by
  rw [← Int.natAbs_mul]
  unfold sgn
  rcases Int.lt_or_le V 0 with hV | hV <;> rcases Int.lt_or_le U 0 with hU | hU
  · have := Int.mul_nonneg_of_nonpos_of_nonpos (Int.le_of_lt hV) (Int.le_of_lt hU)
    simp [hV, hU]; omega
  · have := Int.mul_nonpos_of_nonpos_of_nonneg (Int.le_of_lt hV) hU
    have h1 : ¬ U < 0 := by omega
    simp [hV, h1]; omega
  · have := Int.mul_nonpos_of_nonneg_of_nonpos hV (Int.le_of_lt hU)
    have h1 : ¬ V < 0 := by omega
    simp [hU, h1]; omega
  · have := Int.mul_nonneg hV hU
    have h1 : ¬ U < 0 := by omega
    have h2 : ¬ V < 0 := by omega
    simp [h1, h2]; omega

set_option maxHeartbeats 2000000 in
theorem bTimes_any {w : World} {x y : Value} {V U : Int} (hx : BigN w x V) (hy : BigN w y U) (lx : (digs V.natAbs).length ≤ 100) (ly : (digs U.natAbs).length ≤ 100) :
    Calls Tryz.prog 37 #[x, y] w fun e w' => ∃ z, e = .returned z ∧ BigN w' z (V * U) ∧ Below w.heap.size w w' := by
  obtain ⟨A1, n, c, rfl, hnc, hcm, h1⟩ := hx
  obtain ⟨A2, n', c', rfl, hnc', hcm', h2⟩ := hy
  have hn1 : n ≤ 100 := by have := h1.dlen; omega
  have hn2 : n' ≤ 100 := by have := h2.dlen; omega
  have HA := Lib.hid h1.dlen
  have HB := Lib.hid h2.dlen
  have HDA := Lib.hid (digs_digs V.natAbs)
  have HDB := Lib.hid (digs_digs U.natAbs)
  have HVA := Lib.hid (dval_digs V.natAbs)
  have HVB := Lib.hid (dval_digs U.natAbs)
  generalize hSA : decide (V < 0) = sa at *
  generalize hSB : decide (U < 0) = sb at *
  generalize hLA : digs V.natAbs = la at *
  generalize hLB : digs U.natAbs = lb at *
  have HSS := Lib.hid (show sgn (!(sa == sb)) (V.natAbs * U.natAbs) = V * U by rw [← hSA, ← hSB]; exact sgn_times V U)
  clear hSA hSB hLA hLB lx ly
  obtain ⟨L, hL⟩ : ∃ L : Nat, n + n' + 1 = L := ⟨_, rfl⟩
  have hLe : (n : Int) + (n' : Int) + 1 = (L : Int) := by omega
  have hmk := run_make_row' (P := Tryz.prog) 49 3 (.int .i64 0) 8 (by kernel_rfl) (by kernel_rfl) rfl .i64 .i64 L (by omega) (by omega)
  have HT0 : Hid (TB w A1 A2 n c n' c' L sa sb (List.replicate L 0) (((((w.alloc (Obj.cells #[Value.bool sa, Value.slice A1 n c] 51)).alloc (Obj.cells #[Value.bool sb, Value.slice A2 n' c'] 51)).alloc (Obj.cells #[Value.bool false, Value.slice none 0 0] 51)).alloc (Obj.cells #[Value.bool (!(sa == sb)), Value.slice (some ⟨w.heap.size + 1 + 1 + 1 + 1, 0, none⟩) L L] 51)).alloc (Obj.cells (madeCells #[Value.int IntKind.i64 0] L) 3))) := Lib.hid (by
    have s1 := (sb1 w 51 #[Value.bool sa, Value.slice A1 n c])
    have s2 := s1.push (by simp) 51 #[Value.bool sb, Value.slice A2 n' c']
    have s3 := s2.push (by simp) 51 #[Value.bool false, Value.slice none 0 0]
    have s4 := s3.push (by simp) 51 #[Value.bool (!(sa == sb)), Value.slice (some ⟨w.heap.size + 1 + 1 + 1 + 1, 0, none⟩) L L]
    have s5 := s4.push (by simp) 3 (madeCells #[Value.int IntKind.i64 0] L)
    have m0 : ∀ x ∈ [(w.heap.size + 4, 3, madeCells #[Value.int IntKind.i64 0] L), (w.heap.size + 3, 51, #[Value.bool (!(sa == sb)), Value.slice (some ⟨w.heap.size + 1 + 1 + 1 + 1, 0, none⟩) L L]), (w.heap.size + 2, 51, #[Value.bool false, Value.slice none 0 0]), (w.heap.size + 1, 51, #[Value.bool sb, Value.slice A2 n' c']), (w.heap.size, 51, #[Value.bool sa, Value.slice A1 n c])], Bk _ x.1 x.2.1 x.2.2 := s5.bk
    exact ⟨s5.bel, s5.size, m0 _ (.tail _ (.tail _ (.tail _ (.tail _ (.head _))))), m0 _ (.tail _ (.tail _ (.tail _ (.head _)))), m0 _ (.tail _ (.tail _ (.head _))), m0 _ (.tail _ (.head _)), by rw [← made_zeros]; exact m0 _ (.head _), by simp⟩)
  go_enter Tryz.func37, Tryz.ntmps37
  go_wp2
  go_loopw [6] (fun iv wr => ∃ (i : Nat) (O : List Nat), iv = .int .i64 (i : Nat) ∧ i ≤ n ∧ TB w A1 A2 n c n' c' L sa sb O wr ∧ Hid (Digs O ∧ dval O = dval (la.take i) * dval lb)) (fun iv _ => n - (intOf iv).toNat)
  case atStart => exact ⟨0, _, rfl, Nat.zero_le _, HT0.out, Lib.hid ⟨digs_zeros L, by rw [dval_zeros]; simp [dval]⟩⟩
  case round =>
    clear HT0 hmk
    obtain ⟨i, O, rfl, hi, hT, HO⟩ := hrel
    have c01 := hT.b0.cell 1
    have c11 := hT.b1.cell 1
    by_cases hin : i < n
    · have hin' : (i : Int) < (n : Int) := by omega
      go_wp2
      go_loopw [7, 8] (fun cv kv w4 => ∃ (q k : Nat) (P : List Nat), cv = .int .i64 (q : Nat) ∧ kv = .int .i64 (k : Nat) ∧ q ≤ 9 ∧ k ≤ n' + 1 ∧ TB w A1 A2 n c n' c' L sa sb P w4 ∧ Hid (Digs P ∧ dval P + 10 ^ (i + k) * q = dval (la.take i) * dval lb + 10 ^ i * la.getD i 0 * dval (lb.take k))) (fun _ kv _ => n' + 1 - (intOf kv).toNat)
      case atStart => exact ⟨0, 0, O, rfl, rfl, by omega, by omega, hT, Lib.hid ⟨HO.out.1, by have := HO.out.2; simp [dval]; exact this⟩⟩
      case round =>
        clear hT HO c01 c11
        obtain ⟨q, k, P, rfl, rfl, hq9, hk, hT, HP⟩ := hrel
        have c01 := hT.b0.cell 1
        have c11 := hT.b1.cell 1
        have c31 := hT.b3.cell 1
        obtain ⟨m, hm⟩ : ∃ m, i + k = m := ⟨_, rfl⟩
        have hmI : (i : Int) + (k : Int) = (m : Int) := by omega
        by_cases hkn : k < n'
        · have hkn' : (k : Int) < (n' : Int) := by omega
          have hmL : m < L := by omega
          obtain ⟨pa, rfl, hpa, hca⟩ := (h1.belowMono hT.bel (Nat.le_refl _)).digAt hin
          obtain ⟨pb, rfl, hpb, hcb⟩ := (h2.belowMono hT.bel (Nat.le_refl _)).digAt hkn
          have hcd := hT.at_ hmL
          have hz := hT.row.frozen m
          have hx9 := getD_digit HDA.out i
          have hy9 := getD_digit HDB.out k
          have hz9 := getD_digit HP.out.1 m
          have HS := Lib.hid (@times_in P lb (dval (la.take i) * dval lb) i k q (la.getD i 0) _ HP.out.2 (by rw [hT.len]; omega) rfl)
          rw [hm] at HS
          generalize hX : la.getD i 0 = X at *
          generalize lb.getD k 0 = Y at *
          generalize P.getD m 0 = Z at *
          obtain ⟨M, hM⟩ : ∃ M, X * Y = M := ⟨_, rfl⟩
          have hMI : (X : Int) * (Y : Int) = (M : Int) := by rw [← hM]; push_cast; rfl
          have hle := carry_le hq9 hx9 hy9 hz9
          rw [hM] at hle HS
          have HD := Lib.hid (digs_set (p := m) HP.out.1 (Nat.mod_lt (q + Z + M) (show 0 < 10 by omega)))
          have hTd := hT.drew
          have hM81 : M ≤ 99 := by omega
          have hle1 := hle.1
          clear HP hT hm hle hx9 hy9 hM
          go_wp2
          go_region
          all_goals
            have hT2 := hTd.set m ((q + Z + M) % 10)
            clear hTd
            go_wp2
            go_roundw
            case rel => exact ⟨(q + Z + M) / 10, k + 1, _, by push_cast; rfl, by go_num, hle1, by omega, hT2, Lib.hid ⟨HD.out, HS.out⟩⟩
            case measure => simp [intOf]; omega
        · have hkn' : ¬ (k : Int) < (n' : Int) := by omega
          have hkl : lb.length ≤ k := by have := HB.out; omega
          by_cases hq : q = 0
          · subst hq
            have HE := Lib.hid (times_end HP.out.2 hkl)
            have HPD := Lib.hid HP.out.1
            clear HP hkl hm hmI
            go_wp2
            go_roundw
            case rel => exact ⟨i + 1, P, by go_num, by omega, hT, Lib.hid ⟨HPD.out, HE.out⟩⟩
            case measure => simp [intOf]; omega
          · have hq0 : 0 < q := by omega
            have hq0' : (0 : Int) < (q : Int) := by omega
            have hkb : k = n' := by
              have := times_bound HDA.out HDB.out HP.out.2 hkl hq0
              have := HB.out
              omega
            have hmL : m < L := by omega
            have hk1 : k + 1 ≤ n' + 1 := by omega
            have hcd := hT.at_ hmL
            have hz := hT.row.frozen m
            have hz9 := getD_digit HP.out.1 m
            clear hkb
            have hY : lb.getD k 0 = 0 := by simp [List.getD, List.getElem?_eq_none hkl]
            have HS := Lib.hid (@times_in P lb (dval (la.take i) * dval lb) i k q (la.getD i 0) (q + P.getD (i + k) 0) HP.out.2 (by rw [hT.len]; omega) (by rw [hY]; omega))
            rw [hm] at HS
            generalize P.getD m 0 = Z at *
            have HD := Lib.hid (digs_set (p := m) HP.out.1 (Nat.mod_lt (q + Z) (show 0 < 10 by omega)))
            have hT2 := hT.set m ((q + Z) % 10)
            have hle1 : (q + Z) / 10 ≤ 9 := by omega
            clear HP hT hm hkl hY hq
            go_wp2
            go_roundw
            case rel => exact ⟨(q + Z) / 10, k + 1, _, by push_cast; rfl, by go_num, hle1, hk1, hT2, Lib.hid ⟨HD.out, HS.out⟩⟩
            case measure => simp [intOf]; omega
    · obtain rfl : i = n := by omega
      have hin' : ¬ (i : Int) < (i : Int) := by omega
      have HOV : Hid (sgn (!(sa == sb)) (dval O) = V * U) := Lib.hid (by
        rw [← HSS.out]
        have h1 := HO.out.2
        rw [List.take_of_length_le (by have := HA.out; omega), HVA.out, HVB.out] at h1
        rw [h1])
      have HOD := Lib.hid HO.out.1
      have hrd := hT.rd
      have c30 := hT.b3.cell 0
      have c31 := hT.b3.cell 1
      have hLm : L ≤ maxLen := by unfold maxLen; omega
      clear HO
      go_wp2_with fail
      refine (trim_any (l := O) ⟨_, L, L, rfl, Nat.le_refl _, hLm, hrd⟩).mono ?_
      rintro e w5 ⟨z, rfl, hz, hb5⟩
      have hN := bigN_of HOD.out rfl hz
      rw [HOV.out] at hN
      have hN2 := hN
      obtain ⟨A9, n9, c9, rfl, -, -, -⟩ := hN2
      have hbE := hT.bel.trans (hb5.mono hT.bel.size)
      have k2 := hT.b2.below hb5 hT.b2.lt
      generalize decide (V * U < 0) = d at *
      have r0 := k2.cell 0
      have r1 := k2.cell 1
      have z0 := k2.frozen 0
      have z1 := k2.frozen 1
      have hfin := hN.box2 (b' := d) (A' := A9) (n' := n9) (c' := c9) k2
      have hbF := (hbE.setCell (p := ⟨w.heap.size + 1 + 1, 0, none⟩) (by simp; omega) (.bool d)).setCell (p := ⟨w.heap.size + 1 + 1, 1, none⟩) (by simp; omega) (.slice A9 n9 c9)
      clear hN hz hT c30 c31 hrd hb5
      go_wp2
      refine bodyPost_ret (v := .agg #[.bool d, .slice A9 n9 c9]) (by simp [results, Tryz.results37, go_sem, r0, r1]) rfl ⟨_, rfl, hfin, hbF⟩
end Go.Proofs.YtgepipapppdhfaaGreatDoor
