/- str.isHigh, str.isLow, (*strings.Builder).copyCheck and WriteRune by their contracts (the library's, walked anew at this dump). Condition: the builder is the call's own, and is not too long. -/
/- str.join by its contract. Condition: the units read as such, each a number of 16 bits, and are not too many. -/
/- str.Get by its contract. Condition: the bytes and the cuts read as such, no cut stands right behind another one; the Cursor stands in the bytes. -/
import Derived.Test.YtlaiocdnddnnaaaGreatDoorProg
import Derived.Test.YtlaiocdnddnnaaaGreatDoorValid
import Derived.Test.YtlaiocdnddnnaaaGreatDoorCutS
import Derived.Test.YtlaiocdnddnnaaaGreatDoorSettle
import Derived.Shelf.Strings.BuilderRune
import Derived.Test.YtlaiocdnddnnaaaGreatDoorGetU
set_option linter.unusedVariables false
set_option linter.unusedSimpArgs false
namespace Go.Proofs.YtlaiocdnddnnaaaGreatDoor
open Go.RowKit Go.Lib
def hiB (r : Int) : Bool := decide (55296 ≤ r ∧ r < 56320)
def loB (r : Int) : Bool := decide (56320 ≤ r ∧ r < 57344)
theorem isHigh_any {w : World} {r : Int} : Calls Tryz.prog 139 #[.int .i32 r] w fun e w' => e = .returned (.bool (hiB r)) ∧ w' = w := by
  by_cases h0 : 55296 ≤ r
  · by_cases h1 : r < 56320
    · have HF := Lib.hid (show hiB r = true by simp [hiB, h0, h1]); go_enter Tryz.func139, Tryz.ntmps139; go_wp2; go_ret; exact ⟨by rw [HF.out]; rfl, rfl⟩
    · have HF := Lib.hid (show hiB r = false by simp [hiB, h1]); have h1' : 56320 ≤ r := by omega
      go_enter Tryz.func139, Tryz.ntmps139; go_wp2; go_ret; exact ⟨by rw [HF.out]; rfl, rfl⟩
  · have HF := Lib.hid (show hiB r = false by simp [hiB, h0]); have h0' : r < 55296 := by omega
    go_enter Tryz.func139, Tryz.ntmps139; go_wp2; go_ret; exact ⟨by rw [HF.out]; rfl, rfl⟩
theorem isLow_any {w : World} {r : Int} : Calls Tryz.prog 140 #[.int .i32 r] w fun e w' => e = .returned (.bool (loB r)) ∧ w' = w := by
  by_cases h0 : 56320 ≤ r
  · by_cases h1 : r < 57344
    · have HF := Lib.hid (show loB r = true by simp [loB, h0, h1]); go_enter Tryz.func140, Tryz.ntmps140; go_wp2; go_ret; exact ⟨by rw [HF.out]; rfl, rfl⟩
    · have HF := Lib.hid (show loB r = false by simp [loB, h1]); have h1' : 57344 ≤ r := by omega
      go_enter Tryz.func140, Tryz.ntmps140; go_wp2; go_ret; exact ⟨by rw [HF.out]; rfl, rfl⟩
  · have HF := Lib.hid (show loB r = false by simp [loB, h0]); have h0' : r < 56320 := by omega
    go_enter Tryz.func140, Tryz.ntmps140; go_wp2; go_ret; exact ⟨by rw [HF.out]; rfl, rfl⟩
abbrev TB : TypeId := 212
abbrev TE : TypeId := 5
set_option maxHeartbeats 1000000 in
set_option maxRecDepth 100000 in
theorem copyCheck_used (b : Nat) (w : World) (h0 : w.cell? ⟨b, 0, none⟩ = some (.pointer (some ⟨b, 0, none⟩))) :
    Calls Tryz.prog 144 #[.pointer (some ⟨b, 0, none⟩)] w fun e w' => e = .returned (.tuple #[]) ∧ w' = w := by
  obtain ⟨j, hj, _⟩ := Option.map_eq_some_iff.1 Tryz.Builder_Extra_169.toX72.sizeBuilder; go_enter Tryz.func144, Tryz.ntmps144; go_wp2; rw [Lib.run_neq_ptr_same w _ Tryz.underlying210 hj]; go_wp2
  go_end0
  exact ⟨rfl, rfl⟩
set_option maxHeartbeats 1000000 in
set_option maxRecDepth 100000 in
theorem copyCheck_fresh (b : Nat) (w : World) (h0 : w.cell? ⟨b, 0, none⟩ = some (.pointer none)) (hsh : w.shape? b = some (TB, 2)) (hfz : w.frozen? ⟨b, 0, none⟩ = false) :
    Calls Tryz.prog 144 #[.pointer (some ⟨b, 0, none⟩)] w fun e w' => e = .returned (.tuple #[]) ∧ w' = w.setCell ⟨b, 0, none⟩ (.pointer (some ⟨b, 0, none⟩)) := by
  obtain ⟨j, hj, hjs⟩ := Option.map_eq_some_iff.1 Tryz.Builder_Extra_169.toX72.sizeBuilder; go_enter Tryz.func144, Tryz.ntmps144; go_wp2; rw [Lib.run_to_unsafe w ⟨b, 0, none⟩ Tryz.underlying210 Tryz.underlying222 hj (by rw [hjs]; decide) hsh (Nat.zero_lt_succ 1)]; simp only [Result.andThen]; rw [Oper.upon_value]; go_wp2; rw [run_callFunc_extern Tryz.func147 (by kernel_rfl) (by kernel_rfl) (by kernel_rfl) (e := Extern.AbiNoEscape.same) (by kernel_rfl)]; rw [Lib.run_noEscape]; simp only [Result.andThen]; rw [Oper.upon_value]; go_wp2; rw [Lib.run_from_unsafe w ⟨b, 0, none⟩ Tryz.underlying222 Tryz.underlying210 hj hsh Tryz.Builder_Extra_169.toX72.liesBuilder]; simp only [Result.andThen]; rw [Oper.upon_value]; go_wp2
  go_end0
  exact ⟨rfl, rfl⟩
theorem copyCheck_any (B b : Nat) (bs : List Value) (w : World) (h : Lib.IsBuilderF TB TE B b bs w) :
    Calls Tryz.prog 144 #[.pointer (some ⟨b, 0, none⟩)] w fun e w' => e = .returned (.tuple #[]) ∧ (Lib.BuilderAtF TB TE B b (.pointer (some ⟨b, 0, none⟩)) bs w' ∧ Below B w w' ∧ Lib.OthersKept TE (some b) w w') := by
  rcases h with h | h
  · refine (copyCheck_fresh b w h.cell0 h.shape h.frozen0).mono ?_; rintro e w' ⟨rfl, rfl⟩; exact ⟨rfl, h.used _, (Below.refl B w).setCell (p := ⟨b, 0, none⟩) h.1 _, (Lib.OthersKept.refl _ _ w).setCell ⟨b, 0, none⟩ rfl _⟩
  · refine (copyCheck_used b w h.cell0).mono ?_; rintro e w' ⟨rfl, rfl⟩; exact ⟨rfl, h, Below.refl B _, Lib.OthersKept.refl _ _ _⟩
set_option maxHeartbeats 4000000 in
set_option maxRecDepth 100000 in
theorem writeRune_any (B b : Nat) (bs : List Value) (r : Int) (hr0 : -2147483648 ≤ r) (hr1 : r ≤ 2147483647) (w : World) (h : Lib.IsBuilderF TB TE B b bs w) (hlen : bs.length + 4 ≤ 140737488355328) (hBw : B ≤ w.heap.size) :
    Calls Tryz.prog 141 #[.pointer (some ⟨b, 0, none⟩), .int .i32 r] w fun e w' => e = .returned (.tuple #[.int .i64 (Lib.runeCells r).length, .nilIface]) ∧ (Lib.BuilderAtF TB TE B b (.pointer (some ⟨b, 0, none⟩)) (bs ++ Lib.runeCells r) w' ∧ Below B w w' ∧ Lib.OthersKept TE (some b) w w') := by
  have hk4 := Lib.runeCells_le r; go_enter Tryz.func141, Tryz.ntmps141
  go_wp2_with fail
  refine (copyCheck_any B b bs _ h).mono ?_; rintro e w1 ⟨rfl, h1, hb1, hk1⟩; obtain ⟨hB, v, hbk, hown, hne⟩ := h1
  obtain ⟨ao, cap, rfl⟩ : ∃ ao cap, v = .slice ao bs.length cap := by
    rcases hown.2 with ⟨hv, h0⟩ | ⟨g, cap, cur, fz, hv, _⟩
    · exact ⟨none, 0, by rw [hv, h0]⟩
    · exact ⟨_, _, hv⟩
  have c0 : w1.cell? ⟨b, 0, none⟩ = some (.pointer (some ⟨b, 0, none⟩)) := by rw [Lib.cell_of_heap hbk]; rfl
  have c1 : w1.cell? ⟨b, 1, none⟩ = some (.slice ao bs.length cap) := by rw [Lib.cell_of_heap hbk]; rfl
  go_wp2_with fail
  refine (Tryz.utf8_AppendRune_row B _ bs.length bs r hr0 hr1 _ hown hlen (by have := hb1.size; omega)).mono ?_; rintro e w2 ⟨v', rfl, hown', o, hgrow⟩
  have hlt : b < w1.heap.size := by
    rcases Nat.lt_or_ge b w1.heap.size with h' | h'
    · exact h'
    · simp [Array.getElem?_eq_none h'] at hbk
  have hb2 : w2.heap[b]? = some (.cells #[.pointer (some ⟨b, 0, none⟩), .slice ao bs.length cap] TB (0, 0)) := by
    rw [hgrow.block b (by simp; omega) (fun e => hne e.symm), Lib.alloc_old w1 _ b hlt]; exact hbk
  have d0 : w2.cell? ⟨b, 0, none⟩ = some (.pointer (some ⟨b, 0, none⟩)) := by rw [Lib.cell_of_heap hb2]; rfl
  have d1 : w2.cell? ⟨b, 1, none⟩ = some (.slice ao bs.length cap) := by rw [Lib.cell_of_heap hb2]; rfl
  have f1 : w2.frozen? ⟨b, 1, none⟩ = false := Lib.frozen_of_heap hb2 1
  obtain ⟨g, cap', rfl⟩ : ∃ g cap', v' = .slice (some ⟨g, 0, none⟩) (bs.length + (Lib.runeCells r).length) cap' := by
    rcases hown'.2 with ⟨_, h0⟩ | ⟨g, cap', cur, fz, hv, _⟩
    · omega
    · exact ⟨g, cap', hv⟩
  go_wp2
  go_ret2
  refine ⟨?_, ?_, ?_, ((hk1.alloc _).grown hgrow (Lib.ownsRowF_kind (hown.alloc _))).setCell ⟨b, 1, none⟩ rfl _⟩
  · have e : ((bs.length : Int) + ((Lib.runeCells r).length : Int) - (bs.length : Int)) = ((Lib.runeCells r).length : Int) := by omega
    simp [e]
  · exact Lib.BuilderAtF.put (T := TB) (e := TE) hB hb2 (bs' := bs ++ Lib.runeCells r) (by simpa using hown') (by decide)
  · exact ((hb1.alloc (by have := hb1.size; omega) _).grown hgrow (by have := hb1.size; simp; omega) (fun k hk => (hown.lt k hk).1)).setCell (p := ⟨b, 1, none⟩) hB _
end Go.Proofs.YtlaiocdnddnnaaaGreatDoor
namespace Go.Proofs.YtlaiocdnddnnaaaGreatDoor
open Go.RowKit Go.Lib
def jn : List Int → Option (List UInt8)
  | [] => some []
  | [r] => if (hiB r || loB r) = true then none else some (encodeRune r)
  | r :: u :: us => if (hiB r && loB u) = true then (jn us).map (encodeRune (65536 + (r % 1024 * 1024 + u % 1024)) ++ ·) else if (hiB r || loB r) = true then none else (jn (u :: us)).map (encodeRune r ++ ·)
theorem byteCells_app (a b : List UInt8) : byteCells (a ++ b) = byteCells a ++ byteCells b := by simp [byteCells]
theorem byteCells_len (a : List UInt8) : (byteCells a).length = a.length := by simp [byteCells]
theorem enc_len (r : Int) : (encodeRune r).length ≤ 4 := by
  have := Lib.runeCells_le r; rw [Lib.runeCells_length] at this; exact this.2
theorem builder_app {B b : Nat} {L : List UInt8} {r : Int} {w : World} {p : Value} (h : Lib.BuilderAtF TB TE B b p (byteCells L ++ Lib.runeCells r) w) : Lib.BuilderAtF TB TE B b p (byteCells (L ++ encodeRune r)) w := by
  rw [byteCells_app, Lib.byteCells_encodeRune]; exact h
theorem Rd.uncons {w : World} {B n c : Nat} {a : Addr} {r : Int} {us : List Int} (h : Rd w B 1 (some a) n ((r :: us).map rv)) (hnc : n ≤ c) :
    w.cell? a = some (.int .i32 r) ∧ n = us.length + 1 ∧ (c ≠ 1 → Rd w B 1 (some (a.add 1)) (n - 1) (us.map rv)) ∧ (c = 1 → us = []) := by
  have hl := h.len; simp at hl; obtain ⟨a', ha, hb, hc⟩ := h.at_ (by omega); injection ha with ha; subst ha; refine ⟨?_, by omega, fun h1 => ?_, fun h1 => ?_⟩
  · have := hc 0 (rv r) rfl; exact this
  · have := h.cut (i := 1) (j := n) (cap := c) (by omega) (by omega) hnc; rw [if_neg h1] at this; simp at this; have e : (us.map rv).take (n - 1) = us.map rv := List.take_of_length_le (by simp; omega); rw [e] at this; exact this
  · have : us.length = 0 := by omega
    exact List.eq_nil_of_length_eq_zero this
set_option maxHeartbeats 8000000 in
set_option maxRecDepth 100000 in
theorem join_any {w : World} {B n c : Nat} {A : Option Addr} {us : List Int} (h : Rd w B 1 A n (us.map rv)) (hB : B ≤ w.heap.size) (hnc : n ≤ c) (hn : n ≤ 1000000) (hu : ∀ u ∈ us, 0 ≤ u ∧ u ≤ 65535) :
    Calls Tryz.prog 132 #[.slice A n c] w fun e w' => e = .returned (.tuple #[.string ⟨((jn us).getD []).toArray⟩, .int .i64 (if (jn us).isSome = true then 0 else 2)]) ∧ Below w.heap.size w w' := by
  obtain ⟨T, hT⟩ : ∃ T, jn us = T := ⟨_, rfl⟩
  rw [hT]; have HT := Lib.hid hT; clear hT; have hlen : us.length = n := by have := h.len; simp at this; exact this
  have hB0 : Lib.IsBuilderF TB TE w.heap.size w.heap.size (byteCells []) (w.alloc (.cells #[.pointer none, .slice none 0 0] TB)) :=
    .inl ⟨Nat.le_refl _, .slice none 0 0, heap_alloc_new w _, World.ownsRowF_nil _ _ _ _, by simp [Value.ownBlock]⟩
  go_enter Tryz.func132, Tryz.ntmps132; go_wp2
  go_loopg [0] (n + 1) (fun gk s0 wr => ∃ (A : Option Addr) (n c : Nat) (us : List Int) (L : List UInt8), s0 = .slice A n c ∧ n < gk ∧ Rd w B 1 A n (us.map rv) ∧ n ≤ c ∧ us.length = n ∧ (∀ u ∈ us, 0 ≤ u ∧ u ≤ 65535) ∧ L.length + 4 * n ≤ 4000000 ∧ Lib.IsBuilderF TB TE w.heap.size w.heap.size (byteCells L) wr ∧ Below w.heap.size w wr ∧ Hid ((jn us).map (L ++ ·) = T))
  case atStart => exact ⟨A, n, c, us, [], rfl, by omega, h, hnc, hlen, hu, by simp; omega, hB0, (Below.refl _ _).alloc (Nat.le_refl _) _, Lib.hid (by simp [HT.out])⟩
  case round =>
    clear h hnc hlen hu HT hn hB0; obtain ⟨A, n, c, us, L, rfl, hg, hr, hnc, hlen, hu, hL, hb, hbel, HS⟩ := hrel
    cases us with
    | nil =>
      obtain rfl : n = 0 := by simpa using hlen.symm
      have hS := HS.out; simp only [jn, Option.map_some, List.append_nil] at hS; subst hS; clear HS
      go_wp2_with fail
      refine (Tryz.Builder_String_any_k w.heap.size w.heap.size L wr hb hbel.size).mono ?_; rintro e w2 ⟨rfl, -, hb2, -⟩; have hbF := hbel.trans hb2; go_wp2
      go_ret2
      exact ⟨rfl, hbF⟩
    | cons r us =>
      obtain ⟨a, rfl, ha, -⟩ := hr.at_ (by simp at hlen; omega); obtain ⟨hc0, -, -, -⟩ := (hr.belowMono hbel hB).uncons hnc; obtain ⟨-, hn1, hrest, hone⟩ := hr.uncons hnc; obtain ⟨hr0, hr1⟩ := hu r (.head _); clear hr
      by_cases hc1 : c = 1
      · obtain rfl : us = [] := hone hc1; obtain rfl : n = 1 := by simpa using hn1
        subst hc1; clear hone hn1 hrest; obtain ⟨hv, hh⟩ : ∃ v, Hid (hiB r = v) := ⟨_, Lib.hid rfl⟩
        obtain ⟨lv, hl⟩ : ∃ v, Hid (loB r = v) := ⟨_, Lib.hid rfl⟩
        cases hv
        · cases lv
          · have HST : Hid ((jn []).map ((L ++ encodeRune r) ++ ·) = T) := Lib.hid (by
              have := HS.out; rw [show jn [r] = some (encodeRune r) from by unfold jn; rw [if_neg (by rw [hh.out, hl.out]; decide)]] at this
              simpa [jn] using this)
            clear HS
            go_wp2_with fail
            refine (isHigh_any (r := r)).mono ?_; rintro e w5 ⟨rfl, rfl⟩; rw [hh.out]
            go_wp2_with fail
            refine (isHigh_any (r := r)).mono ?_; rintro e w5 ⟨rfl, rfl⟩; rw [hh.out]
            go_wp2_with fail
            refine (isLow_any (r := r)).mono ?_; rintro e w5 ⟨rfl, rfl⟩; rw [hl.out]
            go_wp2_with fail
            refine (writeRune_any w.heap.size w.heap.size (byteCells L) (r) (by omega) (by omega) w5 hb (by rw [byteCells_len]; omega) hbel.size).mono ?_; rintro e w6 ⟨rfl, hb6, hb6', -⟩; have hb7 := builder_app hb6; have hbel6 := hbel.trans hb6'; have hle6 := enc_len (r); clear hb hb6 hb6' hbel; go_wp2
            go_roundg (0 + 1)
            case measure => omega
            case rel => exact ⟨some a, 0, 0, [], L ++ encodeRune (r), by first | rfl | go_num, by omega, Rd.nil _ _ _ _, by omega, rfl, (fun x hx => by cases hx), by rw [List.length_append]; omega, .inr hb7, hbel6, HST⟩
          · have hT : T = none := by have := HS.out; rw [show jn _ = none from by unfold jn; rw [if_pos (by rw [hh.out, hl.out]; decide)]] at this; exact this.symm
            subst hT; clear HS
            go_wp2_with fail
            refine (isHigh_any (r := r)).mono ?_; rintro e w5 ⟨rfl, rfl⟩; rw [hh.out]
            go_wp2_with fail
            refine (isHigh_any (r := r)).mono ?_; rintro e w5 ⟨rfl, rfl⟩; rw [hh.out]
            go_wp2_with fail
            refine (isLow_any (r := r)).mono ?_; rintro e w5 ⟨rfl, rfl⟩; rw [hl.out]; go_wp2
            go_ret2
            exact ⟨rfl, hbel⟩
        · have hT : T = none := by have := HS.out; rw [show jn _ = none from by unfold jn; rw [if_pos (by rw [hh.out]; rfl)]] at this; exact this.symm
          subst hT; clear HS
          go_wp2_with fail
          refine (isHigh_any (r := r)).mono ?_; rintro e w5 ⟨rfl, rfl⟩; rw [hh.out]
          go_wp2_with fail
          refine (isHigh_any (r := r)).mono ?_; rintro e w5 ⟨rfl, rfl⟩; rw [hh.out]; go_wp2
          go_ret2
          exact ⟨rfl, hbel⟩
      · have hrest2 := hrest hc1; clear hone hrest
        cases us with
        | nil =>
          obtain rfl : n = 1 := by simpa using hn1
          clear hn1 hrest2; obtain ⟨hv, hh⟩ : ∃ v, Hid (hiB r = v) := ⟨_, Lib.hid rfl⟩
          obtain ⟨lv, hl⟩ : ∃ v, Hid (loB r = v) := ⟨_, Lib.hid rfl⟩
          cases hv
          · cases lv
            · have HST : Hid ((jn []).map ((L ++ encodeRune r) ++ ·) = T) := Lib.hid (by
                have := HS.out; rw [show jn [r] = some (encodeRune r) from by unfold jn; rw [if_neg (by rw [hh.out, hl.out]; decide)]] at this
                simpa [jn] using this)
              clear HS
              go_wp2_with fail
              refine (isHigh_any (r := r)).mono ?_; rintro e w5 ⟨rfl, rfl⟩; rw [hh.out]
              go_wp2_with fail
              refine (isHigh_any (r := r)).mono ?_; rintro e w5 ⟨rfl, rfl⟩; rw [hh.out]
              go_wp2_with fail
              refine (isLow_any (r := r)).mono ?_; rintro e w5 ⟨rfl, rfl⟩; rw [hl.out]
              go_wp2_with fail
              refine (writeRune_any w.heap.size w.heap.size (byteCells L) (r) (by omega) (by omega) w5 hb (by rw [byteCells_len]; omega) hbel.size).mono ?_; rintro e w6 ⟨rfl, hb6, hb6', -⟩; have hb7 := builder_app hb6; have hbel6 := hbel.trans hb6'; have hle6 := enc_len (r); clear hb hb6 hb6' hbel; go_wp2
              go_roundg (0 + 1)
              case measure => omega
              case rel => exact ⟨some ⟨a.block, a.off + 1, none⟩, 0, (c - 1), [], L ++ encodeRune (r), by first | rfl | go_num, by omega, Rd.nil _ _ _ _, by omega, rfl, (fun x hx => by cases hx), by rw [List.length_append]; omega, .inr hb7, hbel6, HST⟩
            · have hT : T = none := by have := HS.out; rw [show jn _ = none from by unfold jn; rw [if_pos (by rw [hh.out, hl.out]; decide)]] at this; exact this.symm
              subst hT; clear HS
              go_wp2_with fail
              refine (isHigh_any (r := r)).mono ?_; rintro e w5 ⟨rfl, rfl⟩; rw [hh.out]
              go_wp2_with fail
              refine (isHigh_any (r := r)).mono ?_; rintro e w5 ⟨rfl, rfl⟩; rw [hh.out]
              go_wp2_with fail
              refine (isLow_any (r := r)).mono ?_; rintro e w5 ⟨rfl, rfl⟩; rw [hl.out]; go_wp2
              go_ret2
              exact ⟨rfl, hbel⟩
          · have hT : T = none := by have := HS.out; rw [show jn _ = none from by unfold jn; rw [if_pos (by rw [hh.out]; rfl)]] at this; exact this.symm
            subst hT; clear HS
            go_wp2_with fail
            refine (isHigh_any (r := r)).mono ?_; rintro e w5 ⟨rfl, rfl⟩; rw [hh.out]
            go_wp2_with fail
            refine (isHigh_any (r := r)).mono ?_; rintro e w5 ⟨rfl, rfl⟩; rw [hh.out]; go_wp2
            go_ret2
            exact ⟨rfl, hbel⟩
        | cons u us =>
          obtain ⟨m, hm⟩ : ∃ m, us.length = m := ⟨_, rfl⟩
          obtain rfl : n = m + 2 := by simp at hn1; omega
          obtain ⟨hu0, hu1⟩ := hu u (.tail _ (.head _))
          have hrest3 : Rd w B 1 (some ⟨a.block, a.off + 1, none⟩) (m + 1) ((u :: us).map rv) := by
            have h2 : m + 2 - 1 = m + 1 := by omega
            rw [h2] at hrest2; exact hrest2
          obtain ⟨hd0, -, -, -⟩ := (hrest3.belowMono hbel hB).uncons (c := c - 1) (by omega); obtain ⟨-, -, hrest4, hone2⟩ := hrest3.uncons (c := c - 1) (by omega); clear hn1 hrest2; obtain ⟨hv, hh⟩ : ∃ v, Hid (hiB r = v) := ⟨_, Lib.hid rfl⟩
          obtain ⟨lv, hl⟩ : ∃ v, Hid (loB r = v) := ⟨_, Lib.hid rfl⟩
          obtain ⟨uv, hlu⟩ : ∃ v, Hid (loB u = v) := ⟨_, Lib.hid rfl⟩
          cases hv
          · cases lv
            · have HST : Hid ((jn (u :: us)).map ((L ++ encodeRune r) ++ ·) = T) := Lib.hid (by
                have := HS.out; rw [show jn (r :: u :: us) = (jn (u :: us)).map (encodeRune r ++ ·) by rw [jn, if_neg (by rw [hh.out]; simp), if_neg (by rw [hh.out, hl.out]; decide)], Option.map_map] at this; rw [← this]
                congr 1
                funext x
                simp)
              clear HS hrest4 hone2 hd0
              go_wp2_with fail
              refine (isHigh_any (r := r)).mono ?_; rintro e w5 ⟨rfl, rfl⟩; rw [hh.out]
              go_wp2_with fail
              refine (isHigh_any (r := r)).mono ?_; rintro e w5 ⟨rfl, rfl⟩; rw [hh.out]
              go_wp2_with fail
              refine (isLow_any (r := r)).mono ?_; rintro e w5 ⟨rfl, rfl⟩; rw [hl.out]
              go_wp2_with fail
              refine (writeRune_any w.heap.size w.heap.size (byteCells L) (r) (by omega) (by omega) w5 hb (by rw [byteCells_len]; omega) hbel.size).mono ?_; rintro e w6 ⟨rfl, hb6, hb6', -⟩; have hb7 := builder_app hb6; have hbel6 := hbel.trans hb6'; have hle6 := enc_len (r); clear hb hb6 hb6' hbel; go_wp2
              go_roundg ((m + 1) + 1)
              case measure => omega
              case rel => exact ⟨some ⟨a.block, a.off + 1, none⟩, (m + 1), (c - 1), (u :: us), L ++ encodeRune (r), by first | rfl | go_num, by omega, hrest3, by omega, by simp at hlen ⊢; omega, (fun x hx => hu x (.tail _ hx)), by rw [List.length_append]; omega, .inr hb7, hbel6, HST⟩
            · clear hrest4 hone2 hd0; have hT : T = none := by have := HS.out; rw [show jn _ = none from by rw [jn, if_neg (by rw [hh.out]; simp), if_pos (by rw [hh.out, hl.out]; decide)]] at this; exact this.symm
              subst hT; clear HS
              go_wp2_with fail
              refine (isHigh_any (r := r)).mono ?_; rintro e w5 ⟨rfl, rfl⟩; rw [hh.out]
              go_wp2_with fail
              refine (isHigh_any (r := r)).mono ?_; rintro e w5 ⟨rfl, rfl⟩; rw [hh.out]
              go_wp2_with fail
              refine (isLow_any (r := r)).mono ?_; rintro e w5 ⟨rfl, rfl⟩; rw [hl.out]; go_wp2
              go_ret2
              exact ⟨rfl, hbel⟩
          · cases uv
            · clear hrest4 hone2; have hT : T = none := by have := HS.out; rw [show jn _ = none from by rw [jn, if_neg (by rw [hh.out, hlu.out]; decide), if_pos (by rw [hh.out]; rfl)]] at this; exact this.symm
              subst hT; clear HS
              go_wp2_with fail
              refine (isHigh_any (r := r)).mono ?_; rintro e w5 ⟨rfl, rfl⟩; rw [hh.out]
              go_wp2_with fail
              refine (isLow_any (r := u)).mono ?_; rintro e w5 ⟨rfl, rfl⟩; rw [hlu.out]
              go_wp2_with fail
              refine (isHigh_any (r := r)).mono ?_; rintro e w5 ⟨rfl, rfl⟩; rw [hh.out]; go_wp2
              go_ret2
              exact ⟨rfl, hbel⟩
            · have HST : Hid ((jn us).map ((L ++ encodeRune (65536 + (r % 1024 * 1024 + u % 1024))) ++ ·) = T) := Lib.hid (by
                have := HS.out; rw [show jn (r :: u :: us) = (jn us).map (encodeRune (65536 + (r % 1024 * 1024 + u % 1024)) ++ ·) by rw [jn, if_pos (by rw [hh.out, hlu.out]; rfl)], Option.map_map] at this; rw [← this]
                congr 1
                funext x
                simp)
              have b1 : bits .and .i32 r 1023 = r % 1024 := i32_and _ hr0 (by omega); have b2 : bits .and .i32 u 1023 = u % 1024 := i32_and _ hu0 (by omega); have b3 : bits .or .i32 (r % 1024 * 1024) (u % 1024) = r % 1024 * 1024 + u % 1024 := i32_or _ _ (by omega) (by omega) (by omega) (by omega) (by omega); have hh2 : Hid (hiB (65536 + (r % 1024 * 1024 + u % 1024)) = false) := Lib.hid (by unfold hiB; rw [decide_eq_false]; omega); have hl2 : Hid (loB (65536 + (r % 1024 * 1024 + u % 1024)) = false) := Lib.hid (by unfold loB; rw [decide_eq_false]; omega); clear HS
              by_cases hc2 : c - 1 = 1
              · obtain rfl : us = [] := hone2 hc2; obtain rfl : m = 0 := by simpa using hm.symm
                clear hone2 hrest4
                go_wp2_with fail
                refine (isHigh_any (r := r)).mono ?_; rintro e w5 ⟨rfl, rfl⟩; rw [hh.out]
                go_wp2_with fail
                refine (isLow_any (r := u)).mono ?_; rintro e w5 ⟨rfl, rfl⟩; rw [hlu.out]
                go_wp2_with fail
                refine (isHigh_any (r := 65536 + (r % 1024 * 1024 + u % 1024))).mono ?_; rintro e w5 ⟨rfl, rfl⟩; rw [hh2.out]
                go_wp2_with fail
                refine (isLow_any (r := 65536 + (r % 1024 * 1024 + u % 1024))).mono ?_; rintro e w5 ⟨rfl, rfl⟩; rw [hl2.out]
                go_wp2_with fail
                refine (writeRune_any w.heap.size w.heap.size (byteCells L) (65536 + (r % 1024 * 1024 + u % 1024)) (by omega) (by omega) w5 hb (by rw [byteCells_len]; omega) hbel.size).mono ?_; rintro e w6 ⟨rfl, hb6, hb6', -⟩; have hb7 := builder_app hb6; have hbel6 := hbel.trans hb6'; have hle6 := enc_len (65536 + (r % 1024 * 1024 + u % 1024)); clear hb hb6 hb6' hbel; go_wp2
                go_roundg (0 + 1)
                case measure => omega
                case rel => exact ⟨some ⟨a.block, a.off + 1, none⟩, 0, 0, [], L ++ encodeRune (65536 + (r % 1024 * 1024 + u % 1024)), by first | rfl | go_num, by omega, Rd.nil _ _ _ _, by omega, rfl, (fun x hx => by cases hx), by rw [List.length_append]; omega, .inr hb7, hbel6, HST⟩
              · have hrest5 := hrest4 hc2; clear hone2 hrest4
                go_wp2_with fail
                refine (isHigh_any (r := r)).mono ?_; rintro e w5 ⟨rfl, rfl⟩; rw [hh.out]
                go_wp2_with fail
                refine (isLow_any (r := u)).mono ?_; rintro e w5 ⟨rfl, rfl⟩; rw [hlu.out]
                go_wp2_with fail
                refine (isHigh_any (r := 65536 + (r % 1024 * 1024 + u % 1024))).mono ?_; rintro e w5 ⟨rfl, rfl⟩; rw [hh2.out]
                go_wp2_with fail
                refine (isLow_any (r := 65536 + (r % 1024 * 1024 + u % 1024))).mono ?_; rintro e w5 ⟨rfl, rfl⟩; rw [hl2.out]
                go_wp2_with fail
                refine (writeRune_any w.heap.size w.heap.size (byteCells L) (65536 + (r % 1024 * 1024 + u % 1024)) (by omega) (by omega) w5 hb (by rw [byteCells_len]; omega) hbel.size).mono ?_; rintro e w6 ⟨rfl, hb6, hb6', -⟩; have hb7 := builder_app hb6; have hbel6 := hbel.trans hb6'; have hle6 := enc_len (65536 + (r % 1024 * 1024 + u % 1024)); clear hb hb6 hb6' hbel; go_wp2
                go_roundg (m + 1)
                case measure => omega
                case rel => exact ⟨some ⟨a.block, a.off + 1 + 1, none⟩, m, (c - 1 - 1), us, L ++ encodeRune (65536 + (r % 1024 * 1024 + u % 1024)), by first | rfl | go_num, by omega, hrest5, by omega, by simp at hlen ⊢; omega, (fun x hx => hu x (.tail _ (.tail _ hx))), by rw [List.length_append]; omega, .inr hb7, hbel6, HST⟩
end Go.Proofs.YtlaiocdnddnnaaaGreatDoor
namespace Go.Proofs.YtlaiocdnddnnaaaGreatDoor
open Go.RowKit Go.Lib
def rdS (l : List UInt8) (cs : List Int) (at_ : Nat) : List UInt8 × Nat × Int :=
  if (rdAll l cs at_).2.2 = 0 then
    if (jn (rdAll l cs at_).1).isSome = true then ((jn (rdAll l cs at_).1).getD [], (rdAll l cs at_).2.1, 0) else ([], at_, 2)
  else ([], at_, (rdAll l cs at_).2.2)
theorem rdU1_bd (l : List UInt8) (cs : List Int) (fl at_ : Nat) : (rdU1 l cs fl at_).1 ≤ 65535 := by
  have b0 := byte_lt l at_; have b1 := byte_lt l (at_ + 1); unfold rdU1
  repeat' split
  all_goals (simp only; omega)
theorem rdUs_bd (l : List UInt8) (cs : List Int) : ∀ (k fl at_ : Nat), ∀ u ∈ (rdUs l cs k fl at_).1, 0 ≤ u ∧ u ≤ 65535
  | 0, fl, at_ => by simp [rdUs]
  | k + 1, fl, at_ => by
    intro u hu; rw [rdUs] at hu
    split at hu
    · split at hu
      · rcases List.mem_cons.1 hu with rfl | hu
        · have := rdU1_bd l cs (rdA l cs fl at_).1 (rdA l cs fl at_).2.1; omega
        · exact rdUs_bd l cs k _ _ u hu
      · cases hu
    · cases hu
theorem rdAll_bd (l : List UInt8) (cs : List Int) (at_ : Nat) : ∀ u ∈ (rdAll l cs at_).1, 0 ≤ u ∧ u ≤ 65535 := by
  intro u hu; unfold rdAll at hu
  split at hu
  · split at hu
    · cases hu
    · split at hu
      · exact rdUs_bd l cs _ _ _ u hu
      · cases hu
  · cases hu
set_option maxHeartbeats 8000000 in
set_option maxRecDepth 100000 in
theorem get_any {w : World} {B n c at_ n' c' : Nat} {A A' : Option Addr} {l : List UInt8} {cs : List Int} (h : Rd w B 1 A n (l.map bv)) (hC : CutS w B A' n' cs) (hnc : n ≤ c) (hn : n ≤ 1000000000000000000) (hB : B ≤ w.heap.size) (ha : at_ ≤ n) (hna : ∀ x : Int, cs.contains x = true → cs.contains (x + 1) = false) :
    Calls Tryz.prog 118 #[cur A n c at_, .slice A' n' c'] w fun e w' => e = .returned (.tuple #[.string ⟨(rdS l cs at_).1.toArray⟩, cur A n c (rdS l cs at_).2.1, .int .i64 (rdS l cs at_).2.2]) ∧ Below w.heap.size w w' := by
  have hbel0 := two_below w (.cells #[.slice A n c, .int .i64 at_] 82) (.cells #[.slice none 0 0, .int .i64 0] 82); have HG := Lib.hid (getUnits_any (n := n) (c := c) (at_ := at_) (n' := n') (c' := c') (h.belowMono hbel0 hB) (hC.belowMono hbel0 hB) hnc hn (Nat.le_trans hB hbel0.size) ha hna); have HB := Lib.hid (rdAll_bd l cs at_); clear h hC hna; obtain ⟨S, hS⟩ : ∃ S, rdS l cs at_ = S := ⟨_, rfl⟩
  rw [hS]; unfold rdS at hS; generalize rdAll l cs at_ = T at *; obtain ⟨us, a1, e1⟩ := T; simp only at hS HB; have HS := Lib.hid hS; clear hS
  by_cases he1 : e1 = 0
  · subst he1; obtain ⟨J, hJ⟩ : ∃ J, jn us = J := ⟨_, rfl⟩
    have HJ := Lib.hid hJ; rw [hJ] at HS; clear hJ; unfold cur at *; go_enter Tryz.func118, Tryz.ntmps118
    go_wp2_with fail
    refine HG.out.mono ?_; rintro e w1 ⟨hgot, hb1⟩; clear HG
    rcases hgot with ⟨h0, -⟩ | ⟨-, v, k, rfl, ho, hk⟩
    · exact absurd rfl h0
    · obtain ⟨k2, k5, hbel, s1⟩ := two_boxes hb1; obtain ⟨Au, cu, rfl, hncu, -, hru⟩ := own_form ho; unfold cur; have hsz2 := k2.lt; have hsz5 := k5.lt; have k8 := Bk.new w1 82 #[.slice A n c, .int .i64 a1]; have k2' := k2.alloc (.cells #[.slice A n c, .int .i64 a1] 82); have k5' := k5.alloc (.cells #[.slice A n c, .int .i64 a1] 82); have hbel' := hbel.alloc hbel.size (.cells #[.slice A n c, .int .i64 a1] 82); have hru' := hru.belowMono ((Below.refl w1.heap.size w1).alloc (Nat.le_refl _) (.cells #[.slice A n c, .int .i64 a1] 82)) (Nat.le_refl _); have hszW : w1.heap.size < (w1.alloc (.cells #[.slice A n c, .int .i64 a1] 82)).heap.size := by simp
      clear k2 k5 hbel hru ho
      go_wp2_with fail
      generalize hW : w1.alloc (.cells #[.slice A n c, .int .i64 a1] 82) = w2 at *; refine (join_any hru' (by omega) hncu (by omega) HB.out).mono ?_; rintro e w3 ⟨rfl, hb3⟩; rw [HJ.out]; have k2 := k2'.below hb3 (by omega); have k5 := k5'.below hb3 (by omega); have k8' := k8.below hb3 hszW; have hbel := hbel'.trans (hb3.mono hbel'.size); have hsz := hb3.size; clear k2' k5' k8 hbel' hru' hb3 HJ HB
      cases J with
      | none =>
        have hS := HS.out; simp at hS; subst hS; clear HS; have f0 := k2.cell 0; have f1 := k2.cell 1; have d0 := k5.cell 0; have d1 := k5.cell 1; have z0 := k5.frozen 0; have z1 := k5.frozen 1; go_wp2
        go_region
        all_goals
          go_wp2; exact bodyPost_ret (v := .tuple #[.string ⟨#[]⟩, .agg #[.slice A n c, .int .i64 at_], .int .i64 2]) (by simp [results, Tryz.results118, go_sem, d0, d1]) rfl ⟨rfl, ((hbel.setCell (by simp) _).setCell (by simp) _).drew⟩
      | some s =>
        have hS := HS.out; simp at hS; subst hS; clear HS; have f0 := k8'.cell 0; have f1 := k8'.cell 1; have d0 := k5.cell 0; have d1 := k5.cell 1; have z0 := k5.frozen 0; have z1 := k5.frozen 1; go_wp2
        go_region
        all_goals
          go_wp2; exact bodyPost_ret (v := .tuple #[.string ⟨s.toArray⟩, .agg #[.slice A n c, .int .i64 a1], .int .i64 0]) (by simp [results, Tryz.results118, go_sem, d0, d1]) rfl ⟨rfl, ((hbel.setCell (by simp) _).setCell (by simp) _).drew⟩
  · have hS := HS.out; rw [if_neg he1] at hS; subst hS; clear HS HB; unfold cur at *; go_enter Tryz.func118, Tryz.ntmps118
    go_wp2_with fail
    refine HG.out.mono ?_; rintro e w1 ⟨hgot, hb1⟩; clear HG
    rcases hgot with ⟨-, x, rfl⟩ | ⟨h0, -⟩
    · obtain ⟨k2, k5, hbel, s1⟩ := two_boxes hb1; unfold cur; have k2' := k2.alloc (.cells #[.slice A n c, .int .i64 x] 82); have k5' := k5.alloc (.cells #[.slice A n c, .int .i64 x] 82); have hbel' := hbel.alloc hbel.size (.cells #[.slice A n c, .int .i64 x] 82); clear k2 k5 hbel; go_wp2; generalize w1.alloc (.cells #[.slice A n c, .int .i64 x] 82) = w2 at *; have f0 := k2'.cell 0; have f1 := k2'.cell 1; have d0 := k5'.cell 0; have d1 := k5'.cell 1; have z0 := k5'.frozen 0; have z1 := k5'.frozen 1
      go_region
      all_goals
        go_wp2; exact bodyPost_ret (v := .tuple #[.string ⟨#[]⟩, .agg #[.slice A n c, .int .i64 at_], .int .i64 e1]) (by simp [results, Tryz.results118, go_sem, d0, d1]) rfl ⟨rfl, ((hbel'.setCell (by simp) _).setCell (by simp) _).drew⟩
    · exact absurd h0 he1
end Go.Proofs.YtlaiocdnddnnaaaGreatDoor
