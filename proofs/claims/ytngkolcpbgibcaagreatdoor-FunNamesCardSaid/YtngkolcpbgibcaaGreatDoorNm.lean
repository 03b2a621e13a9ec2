/- cashbookref13.Names, cashbooklaw11.FunNames by their contracts. Condition: the tables are laid. -/
import Derived.Test.YtngkolcpbgibcaaGreatDoorKd
import Derived.Test.YtngkolcpbgibcaaGreatDoorV5
set_option linter.unusedVariables false
set_option linter.unusedSimpArgs false
namespace Go.Proofs.YtngkolcpbgibcaaGreatDoor
open Go.RowKit
def nmCs : List Value := fnTab.map fun x => sL x.1
set_option maxRecDepth 20000 in
set_option maxHeartbeats 4000000 in
theorem bNames_any {w : World} : Calls Tryz.prog 22 #[] w fun e W => ∃ q, w.heap.size ≤ q ∧ e = .returned (.slice (some ⟨q, 0, none⟩) 30 30) ∧ Bk W q 9 nmCs.toArray ∧ Below w.heap.size w W := by
  have HB := Lib.hid (BX.start w); go_enter Tryz.func22, Tryz.ntmps22
  repeat' (first | ((with_reducible show Oper.wp _ _ _ _ _ _); apply stop_bs; exact rfl) | go_values | go_skip | go_guarded | go_step | go_upon)
  refine Lib.hid ?_; refine bs_g (e := 9) (n := 30) HB nmCs (by kernel_rfl) ?_; clear HB; intro g0 W _ HB; go_simp
  repeat' (first | go_values | go_skip | go_guarded | go_step | go_upon)
  go_ret; exact ⟨g0, HB.out.lo _ (List.mem_cons_self ..), rfl, HB.out.get (i := 0) rfl, HB.out.bel⟩
theorem find_at {k : Nat} {x : List UInt8 × Int × Int} (hx : fnTab[k]? = some x) : findX x.1 = some k := by
  have h : (List.range 30).all (fun k => match fnTab[k]? with | some x => findX x.1 == some k | none => true) = true := by kernel_rfl
  have hk : k < 30 := (List.getElem?_eq_some_iff.1 hx).1; have := List.all_eq_true.1 h k (List.mem_range.2 hk); rw [hx] at this
  simpa using this
theorem find_is {l : List UInt8} {j : Nat} (h : findX l = some j) : ∃ x, fnTab[j]? = some x ∧ x.1 = l := by
  unfold findX at h; obtain ⟨hj, hp, -⟩ := List.findIdx?_eq_some_iff_getElem.1 h; exact ⟨fnTab[j], List.getElem?_eq_getElem hj, by simpa using hp⟩
theorem nm_cell {W : World} {q k : Nat} {x : List UInt8 × Int × Int} (h : Bk W q 9 nmCs.toArray) (hx : fnTab[k]? = some x) : W.cell? ⟨q, k, none⟩ = some (.string ⟨x.1.toArray⟩) := by
  rw [h.cell, List.getElem?_toArray, nmCs, List.getElem?_map, hx]; rfl
theorem name_in {n : Nat} {x : List UInt8 × Int × Int} (hx : fnTab[n]? = some x) : nameX (n : Int) = some x.1 := by
  unfold nameX; rw [if_pos (by omega), Int.toNat_natCast, hx]; rfl
theorem name_out {k : Int} (h : ¬ (0 ≤ k ∧ k < 30)) : nameX k = none := by
  unfold nameX
  by_cases h0 : 0 ≤ k
  · rw [if_pos h0, List.getElem?_eq_none (by have : fnTab.length = 30 := rfl; omega)]; rfl
  · rw [if_neg h0]
theorem name_form (op : Int) : ∃ (t : ByteArray) (b : Bool), nameV (nameX op) = .tuple #[.string t, .bool b] ∧ ((b = true ∧ ∃ (n : Nat) (x : List UInt8 × Int × Int), op = (n : Int) ∧ n < 30 ∧ fnTab[n]? = some x ∧ t = ⟨x.1.toArray⟩) ∨ (b = false ∧ t = ⟨#[]⟩ ∧ ¬ (0 ≤ op ∧ op < 30))) := by
  by_cases h : 0 ≤ op ∧ op < 30
  · obtain ⟨n, rfl⟩ : ∃ n : Nat, op = (n : Int) := ⟨op.toNat, by omega⟩
    obtain ⟨x, hx⟩ : ∃ x, fnTab[n]? = some x := ⟨_, List.getElem?_eq_getElem (by have : fnTab.length = 30 := rfl; omega)⟩
    exact ⟨_, _, by rw [name_in hx]; rfl, .inl ⟨rfl, n, x, rfl, by omega, hx, rfl⟩⟩
  · exact ⟨_, _, by rw [name_out h]; rfl, .inr ⟨rfl, rfl, h⟩⟩
set_option maxRecDepth 20000 in
set_option maxHeartbeats 16000000 in
theorem namesLaw {w : World} (HFn : FnT w) (HTn : Tens w) (HVl : Val w) (op : Int) (l : List UInt8) :
    Calls Tryz.prog 5 #[.int .i64 op, .string ⟨l.toArray⟩] w fun e W => e = .returned (.bool true) ∧ Below w.heap.size w W := by
  have HK := Lib.hid (fun (W : World) (hb : Below w.heap.size w W) => known_any (HFn.below hb) (HTn.below hb) (HVl.below hb)); have HF := Lib.hid HFn; have HB := Lib.hid (BX.start w); have HN : Hid (∀ W : World, Below w.heap.size w W → Calls Tryz.prog 23 #[.int .i64 op] W fun e W' => e = .returned (nameV (nameX op)) ∧ W' = W) := Lib.hid fun W hb => fName_any (HFn.below hb) op; have HI : Hid (∀ W : World, Below w.heap.size w W → Calls Tryz.prog 24 #[.string ⟨l.toArray⟩] W fun e W' => e = .returned (findV (findX l)) ∧ W' = W) := Lib.hid fun W hb => fFind_any (HFn.below hb) l; obtain ⟨t, b, ht, hp⟩ := name_form op; rw [ht] at HN; have HP := Lib.hid hp; clear HFn HTn HVl ht hp; go_enter Tryz.func5, Tryz.ntmps5
  repeat' (first | go_values | go_skip | go_guarded | go_step | go_upon)
  refine (HK.out _ HB.out.bel).mono ?_; rintro e W1 ⟨rfl, hb⟩; have HB := Lib.hid (HB.out.call hb); clear hb; dsimp only
  repeat' (first | go_values | go_skip | go_guarded | go_step | go_upon)
  refine bNames_any.mono ?_; rintro e W2 ⟨q, hg, rfl, hbk, hb⟩; have HB : Hid (BX w [(q, 9, nmCs)] W2) := Lib.hid (HB.out.one hg hbk hb); clear hg hbk hb HK; dsimp only
  repeat' (first | go_values | go_skip | go_guarded | go_step | go_upon)
  refine (HN.out _ HB.out.bel).mono ?_; rintro e W3 ⟨rfl, hW⟩; have hW := hW.symm; subst hW; dsimp only; clear HN
  go_upto_region 5 with fail
  go_cut [48] from 20 (fun sx wx => sx = .bool false ∧ Hid (BX w [(q, 9, nmCs)] wx))
  case first =>
    clear HF HI; have HQ := Lib.hid (HB.out.get (i := 0) rfl)
    rcases HP.out with ⟨rfl, n, x, rfl, hn, hx, rfl⟩ | ⟨rfl, rfl, ho⟩
    · have c0 := nm_cell HQ.out hx; have hn0 : (0 : Int) ≤ (n : Int) := by omega
      have hn1 : (n : Int) < 30 := by omega
      clear hx HP; generalize x.1 = t at *
      repeat' (first | go_values | go_skip | go_guarded | go_step | go_upon)
      go_meet; exact ⟨rfl, HB⟩
    · clear HP
      by_cases h0 : 0 ≤ op
      · have h1 : ¬ op < 30 := by omega
        clear ho
        repeat' (first | go_values | go_skip | go_guarded | go_step | go_upon)
        go_meet; exact ⟨rfl, HB⟩
      · clear ho
        repeat' (first | go_values | go_skip | go_guarded | go_step | go_upon)
        go_meet; exact ⟨rfl, HB⟩
  case rest =>
    clear HB HP; obtain ⟨rfl, HB⟩ := hcut; have HQ : Hid (∀ (k : Nat) (x : List UInt8 × Int × Int), fnTab[k]? = some x → wc.cell? ⟨q, k, none⟩ = some (.string ⟨x.1.toArray⟩)) := Lib.hid fun k x hx => nm_cell (HB.out.get (i := 0) rfl) hx
    rcases hf : findX l with _ | j
    · have HX : Hid (∀ (k : Nat) (x : List UInt8 × Int × Int), fnTab[k]? = some x → (x.1 == l) = false) := Lib.hid fun k x hx => by
        rw [beq_eq_false_iff_ne]; rintro rfl; rw [find_at hx] at hf
        cases hf
      rw [hf] at HI; clear hf; simp only [findV] at HI
      repeat' (first | go_values | go_skip | go_guarded | go_step | go_upon)
      refine (HI.out _ HB.out.bel).mono ?_; rintro e W3 ⟨rfl, hW⟩; have hW := hW.symm; subst hW; dsimp only; clear HI
      repeat' (first | go_values | go_skip | go_guarded | go_step | go_upon)
      go_loopw [10, 11] (fun v i wr => ∃ k : Nat, v = .bool false ∧ k ≤ 30 ∧ i = .int .i64 k ∧ wr = wc) (fun _ i _ => 30 - (intOf i).toNat)
      case atStart => exact ⟨0, rfl, Nat.zero_le _, rfl, by first | trivial | rfl⟩
      case round =>
        obtain ⟨k, rfl, hk, rfl, hwr⟩ := hrel; have hwr := hwr.symm; subst hwr
        by_cases hlt : k < 30
        · have hlt' : (k : Int) < 30 := by omega
          have hk0 : (0 : Int) ≤ (k : Int) := by omega
          obtain ⟨x, hx⟩ : ∃ x, fnTab[k]? = some x := ⟨_, List.getElem?_eq_getElem (by have : fnTab.length = 30 := rfl; omega)⟩
          have c0 := HQ.out k x hx; have hq := HX.out k x hx; clear hx
          repeat' (first | go_values | go_skip | go_guarded | go_step | go_upon)
          go_roundw
          case rel => exact ⟨k + 1, rfl, by omega, by go_num, by first | trivial | rfl⟩
          case measure => simp [intOf]; omega
        · obtain rfl : k = 30 := by omega
          repeat' (first | go_values | go_skip | go_guarded | go_step | go_upon)
          go_ret; exact ⟨rfl, HB.out.bel⟩
    · obtain ⟨y, hy, hyl⟩ := find_is hf; have hj : j < 30 := (List.getElem?_eq_some_iff.1 hy).1
      have HX : Hid (∀ (k : Nat) (x : List UInt8 × Int × Int), fnTab[k]? = some x → (x.1 == l) = decide (j = k)) := Lib.hid fun k x hx => by
        by_cases h : j = k
        · subst h; rw [hy] at hx; injection hx with hx; subst hx; rw [decide_eq_true rfl, beq_iff_eq]; exact hyl
        · rw [decide_eq_false h, beq_eq_false_iff_ne]; rintro rfl; rw [find_at hx] at hf; injection hf with hf; exact h hf.symm
      rw [hf] at HI; clear hf hy hyl y; simp only [findV] at HI
      repeat' (first | go_values | go_skip | go_guarded | go_step | go_upon)
      refine (HI.out _ HB.out.bel).mono ?_; rintro e W3 ⟨rfl, hW⟩; have hW := hW.symm; subst hW; dsimp only; clear HI
      repeat' (first | go_values | go_skip | go_guarded | go_step | go_upon)
      go_loopw [10, 11] (fun v i wr => ∃ k : Nat, v = .bool (decide (j < k)) ∧ k ≤ 30 ∧ i = .int .i64 k ∧ wr = wc) (fun _ i _ => 30 - (intOf i).toNat)
      case atStart => exact ⟨0, by rw [decide_eq_false (by omega)], Nat.zero_le _, rfl, by first | trivial | rfl⟩
      case round =>
        obtain ⟨k, rfl, hk, rfl, hwr⟩ := hrel; have hwr := hwr.symm; subst hwr
        by_cases hlt : k < 30
        · have hlt' : (k : Int) < 30 := by omega
          have hk0 : (0 : Int) ≤ (k : Int) := by omega
          obtain ⟨x, hx⟩ : ∃ x, fnTab[k]? = some x := ⟨_, List.getElem?_eq_getElem (by have : fnTab.length = 30 := rfl; omega)⟩
          have c0 := HQ.out k x hx; have hq := HX.out k x hx; clear hx
          by_cases hjk : j = k
          · subst hjk; rw [decide_eq_true rfl] at hq
            repeat' (first | go_values | go_skip | go_guarded | go_step | go_upon)
            go_roundw
            case rel => exact ⟨j + 1, by rw [decide_eq_true (by omega)], by omega, by go_num, by first | trivial | rfl⟩
            case measure => simp [intOf]; omega
          · rw [decide_eq_false hjk] at hq; have hD : Hid (decide (j < k) = decide (j < k + 1)) := Lib.hid (decide_eq_decide.2 (by omega)); clear hjk; generalize hd : decide (j < k) = d at *; have hd := Lib.hid hd
            repeat' (first | go_values | go_skip | go_guarded | go_step | go_upon)
            go_roundw
            case rel => exact ⟨k + 1, by rw [hD.out], by omega, by go_num, by first | trivial | rfl⟩
            case measure => simp [intOf]; omega
        · obtain rfl : k = 30 := by omega
          rw [decide_eq_true hj]
          repeat' (first | go_values | go_skip | go_guarded | go_step | go_upon)
          go_ret; exact ⟨rfl, HB.out.bel⟩
end Go.Proofs.YtngkolcpbgibcaaGreatDoor
