/- str.join by its contract. Condition: the units read as such, each a number of 16 bits, and are not too many. -/
import Derived.Test.YtllcecnkbndokaaGreatDoorJoin
import Derived.Test.YtllcecnkbndokaaGreatDoorGetU
namespace Go.Proofs.YtllcecnkbndokaaGreatDoor
open Go.RowKit Go.Lib

/-- Units as a text; none: a half of a pair alone. -/
def jn : List Int → Option (List UInt8)
  | [] => some []
  | [r] => if (hiB r || loB r) = true then none else some (encodeRune r)
  | r :: u :: us => if (hiB r && loB u) = true then (jn us).map (encodeRune (65536 + (r % 1024 * 1024 + u % 1024)) ++ ·) else if (hiB r || loB r) = true then none else (jn (u :: us)).map (encodeRune r ++ ·)

theorem byteCells_app (a b : List UInt8) : byteCells (a ++ b) = byteCells a ++ byteCells b := by simp [byteCells]
theorem byteCells_len (a : List UInt8) : (byteCells a).length = a.length := by simp [byteCells]
theorem enc_len (r : Int) : (encodeRune r).length ≤ 4 := by
  have := Lib.runeCells_le r
  rw [Lib.runeCells_length] at this
  exact this.2
theorem builder_app {B b : Nat} {L : List UInt8} {r : Int} {w : World} {p : Value} (h : Lib.BuilderAtF TB TE B b p (byteCells L ++ Lib.runeCells r) w) : Lib.BuilderAtF TB TE B b p (byteCells (L ++ encodeRune r)) w := by
  rw [byteCells_app, Lib.byteCells_encodeRune]
  exact h
/-- The first of some units, and the others. -/
theorem Rd.uncons {w : World} {B n c : Nat} {a : Addr} {r : Int} {us : List Int} (h : Rd w B 1 (some a) n ((r :: us).map rv)) (hnc : n ≤ c) :
    w.cell? a = some (.int .i32 r) ∧ n = us.length + 1 ∧ (c ≠ 1 → Rd w B 1 (some (a.add 1)) (n - 1) (us.map rv)) ∧ (c = 1 → us = []) := by
  have hl := h.len
  simp at hl
  obtain ⟨a', ha, hb, hc⟩ := h.at_ (by omega)
  injection ha with ha
  subst ha
  refine ⟨?_, by omega, fun h1 => ?_, fun h1 => ?_⟩
  · have := hc 0 (rv r) rfl
    exact this
  · have := h.cut (i := 1) (j := n) (cap := c) (by omega) (by omega) hnc
    rw [if_neg h1] at this
    simp at this
    have e : (us.map rv).take (n - 1) = us.map rv := List.take_of_length_le (by simp; omega)
    rw [e] at this
    exact this
  · have : us.length = 0 := by omega
    exact List.eq_nil_of_length_eq_zero this

set_option maxHeartbeats 8000000 in
set_option maxRecDepth 100000 in
theorem join_any {w : World} {B n c : Nat} {A : Option Addr} {us : List Int} (h : Rd w B 1 A n (us.map rv)) (hB : B ≤ w.heap.size) (hnc : n ≤ c) (hn : n ≤ 1000000) (hu : ∀ u ∈ us, 0 ≤ u ∧ u ≤ 65535) :
    Calls Tryz.prog 93 #[.slice A n c] w fun e w' => e = .returned (.tuple #[.string ⟨((jn us).getD []).toArray⟩, .int .i64 (if (jn us).isSome = true then 0 else 2)]) ∧ Below w.heap.size w w' := by
  obtain ⟨T, hT⟩ : ∃ T, jn us = T := ⟨_, rfl⟩
  rw [hT]
  have HT := Lib.hid hT
  clear hT
  have hlen : us.length = n := by have := h.len; simp at this; exact this
  have hB0 : Lib.IsBuilderF TB TE w.heap.size w.heap.size (byteCells []) (w.alloc (.cells #[.pointer none, .slice none 0 0] TB)) :=
    .inl ⟨Nat.le_refl _, .slice none 0 0, heap_alloc_new w _, World.ownsRowF_nil _ _ _ _, by simp [Value.ownBlock]⟩
  go_enter Tryz.func93, Tryz.ntmps93
  go_wp2
  go_loopg [0] (n + 1) (fun gk s0 wr => ∃ (A : Option Addr) (n c : Nat) (us : List Int) (L : List UInt8), s0 = .slice A n c ∧ n < gk ∧ Rd w B 1 A n (us.map rv) ∧ n ≤ c ∧ us.length = n ∧ (∀ u ∈ us, 0 ≤ u ∧ u ≤ 65535) ∧ L.length + 4 * n ≤ 4000000 ∧ Lib.IsBuilderF TB TE w.heap.size w.heap.size (byteCells L) wr ∧ Below w.heap.size w wr ∧ Hid ((jn us).map (L ++ ·) = T))
  case atStart => exact ⟨A, n, c, us, [], rfl, by omega, h, hnc, hlen, hu, by simp; omega, hB0, (Below.refl _ _).alloc (Nat.le_refl _) _, Lib.hid (by simp [HT.out])⟩
  case round =>
    clear h hnc hlen hu HT hn hB0
    obtain ⟨A, n, c, us, L, rfl, hg, hr, hnc, hlen, hu, hL, hb, hbel, HS⟩ := hrel
    cases us with
    | nil =>
      obtain rfl : n = 0 := by simpa using hlen.symm
      have hS := HS.out
      simp only [jn, Option.map_some, List.append_nil] at hS
      subst hS
      clear HS
      go_wp2_with fail
      refine (Tryz.Builder_String_any_k w.heap.size w.heap.size L wr hb hbel.size).mono ?_
      rintro e w2 ⟨rfl, -, hb2, -⟩
      have hbF := hbel.trans hb2
      go_wp2
      go_ret2
      exact ⟨rfl, hbF⟩
    | cons r us =>
      obtain ⟨a, rfl, ha, -⟩ := hr.at_ (by simp at hlen; omega)
      obtain ⟨hc0, -, -, -⟩ := (hr.belowMono hbel hB).uncons hnc
      obtain ⟨-, hn1, hrest, hone⟩ := hr.uncons hnc
      obtain ⟨hr0, hr1⟩ := hu r (.head _)
      clear hr
      by_cases hc1 : c = 1
      · obtain rfl : us = [] := hone hc1
        obtain rfl : n = 1 := by simpa using hn1
        subst hc1
        clear hone hn1 hrest
        obtain ⟨hv, hh⟩ : ∃ v, Hid (hiB r = v) := ⟨_, Lib.hid rfl⟩
        obtain ⟨lv, hl⟩ : ∃ v, Hid (loB r = v) := ⟨_, Lib.hid rfl⟩
        cases hv
        · cases lv
          · have HST : Hid ((jn []).map ((L ++ encodeRune r) ++ ·) = T) := Lib.hid (by
              have := HS.out
              rw [show jn [r] = some (encodeRune r) from by unfold jn; rw [if_neg (by rw [hh.out, hl.out]; decide)]] at this
              simpa [jn] using this)
            clear HS
            go_wp2_with fail
            refine (isHigh_any (r := r)).mono ?_
            rintro e w5 ⟨rfl, rfl⟩
            rw [hh.out]
            go_wp2_with fail
            refine (isHigh_any (r := r)).mono ?_
            rintro e w5 ⟨rfl, rfl⟩
            rw [hh.out]
            go_wp2_with fail
            refine (isLow_any (r := r)).mono ?_
            rintro e w5 ⟨rfl, rfl⟩
            rw [hl.out]
            go_wp2_with fail
            refine (writeRune_any w.heap.size w.heap.size (byteCells L) (r) (by omega) (by omega) w5 hb (by rw [byteCells_len]; omega) hbel.size).mono ?_
            rintro e w6 ⟨rfl, hb6, hb6', -⟩
            have hb7 := builder_app hb6
            have hbel6 := hbel.trans hb6'
            have hle6 := enc_len (r)
            clear hb hb6 hb6' hbel
            go_wp2
            go_roundg (0 + 1)
            case measure => omega
            case rel => exact ⟨some a, 0, 0, [], L ++ encodeRune (r), by first | rfl | go_num, by omega, Rd.nil _ _ _ _, by omega, rfl, (fun x hx => by cases hx), by rw [List.length_append]; omega, .inr hb7, hbel6, HST⟩
          · have hT : T = none := by have := HS.out; rw [show jn _ = none from by unfold jn; rw [if_pos (by rw [hh.out, hl.out]; decide)]] at this; exact this.symm
            subst hT
            clear HS
            go_wp2_with fail
            refine (isHigh_any (r := r)).mono ?_
            rintro e w5 ⟨rfl, rfl⟩
            rw [hh.out]
            go_wp2_with fail
            refine (isHigh_any (r := r)).mono ?_
            rintro e w5 ⟨rfl, rfl⟩
            rw [hh.out]
            go_wp2_with fail
            refine (isLow_any (r := r)).mono ?_
            rintro e w5 ⟨rfl, rfl⟩
            rw [hl.out]
            go_wp2
            go_ret2
            exact ⟨rfl, hbel⟩
        · have hT : T = none := by have := HS.out; rw [show jn _ = none from by unfold jn; rw [if_pos (by rw [hh.out]; rfl)]] at this; exact this.symm
          subst hT
          clear HS
          go_wp2_with fail
          refine (isHigh_any (r := r)).mono ?_
          rintro e w5 ⟨rfl, rfl⟩
          rw [hh.out]
          go_wp2_with fail
          refine (isHigh_any (r := r)).mono ?_
          rintro e w5 ⟨rfl, rfl⟩
          rw [hh.out]
          go_wp2
          go_ret2
          exact ⟨rfl, hbel⟩
      · have hrest2 := hrest hc1
        clear hone hrest
        cases us with
        | nil =>
          obtain rfl : n = 1 := by simpa using hn1
          clear hn1 hrest2
          obtain ⟨hv, hh⟩ : ∃ v, Hid (hiB r = v) := ⟨_, Lib.hid rfl⟩
          obtain ⟨lv, hl⟩ : ∃ v, Hid (loB r = v) := ⟨_, Lib.hid rfl⟩
          cases hv
          · cases lv
            · have HST : Hid ((jn []).map ((L ++ encodeRune r) ++ ·) = T) := Lib.hid (by
                have := HS.out
                rw [show jn [r] = some (encodeRune r) from by unfold jn; rw [if_neg (by rw [hh.out, hl.out]; decide)]] at this
                simpa [jn] using this)
              clear HS
              go_wp2_with fail
              refine (isHigh_any (r := r)).mono ?_
              rintro e w5 ⟨rfl, rfl⟩
              rw [hh.out]
              go_wp2_with fail
              refine (isHigh_any (r := r)).mono ?_
              rintro e w5 ⟨rfl, rfl⟩
              rw [hh.out]
              go_wp2_with fail
              refine (isLow_any (r := r)).mono ?_
              rintro e w5 ⟨rfl, rfl⟩
              rw [hl.out]
              go_wp2_with fail
              refine (writeRune_any w.heap.size w.heap.size (byteCells L) (r) (by omega) (by omega) w5 hb (by rw [byteCells_len]; omega) hbel.size).mono ?_
              rintro e w6 ⟨rfl, hb6, hb6', -⟩
              have hb7 := builder_app hb6
              have hbel6 := hbel.trans hb6'
              have hle6 := enc_len (r)
              clear hb hb6 hb6' hbel
              go_wp2
              go_roundg (0 + 1)
              case measure => omega
              case rel => exact ⟨some ⟨a.block, a.off + 1, none⟩, 0, (c - 1), [], L ++ encodeRune (r), by first | rfl | go_num, by omega, Rd.nil _ _ _ _, by omega, rfl, (fun x hx => by cases hx), by rw [List.length_append]; omega, .inr hb7, hbel6, HST⟩
            · have hT : T = none := by have := HS.out; rw [show jn _ = none from by unfold jn; rw [if_pos (by rw [hh.out, hl.out]; decide)]] at this; exact this.symm
              subst hT
              clear HS
              go_wp2_with fail
              refine (isHigh_any (r := r)).mono ?_
              rintro e w5 ⟨rfl, rfl⟩
              rw [hh.out]
              go_wp2_with fail
              refine (isHigh_any (r := r)).mono ?_
              rintro e w5 ⟨rfl, rfl⟩
              rw [hh.out]
              go_wp2_with fail
              refine (isLow_any (r := r)).mono ?_
              rintro e w5 ⟨rfl, rfl⟩
              rw [hl.out]
              go_wp2
              go_ret2
              exact ⟨rfl, hbel⟩
          · have hT : T = none := by have := HS.out; rw [show jn _ = none from by unfold jn; rw [if_pos (by rw [hh.out]; rfl)]] at this; exact this.symm
            subst hT
            clear HS
            go_wp2_with fail
            refine (isHigh_any (r := r)).mono ?_
            rintro e w5 ⟨rfl, rfl⟩
            rw [hh.out]
            go_wp2_with fail
            refine (isHigh_any (r := r)).mono ?_
            rintro e w5 ⟨rfl, rfl⟩
            rw [hh.out]
            go_wp2
            go_ret2
            exact ⟨rfl, hbel⟩
        | cons u us =>
          obtain ⟨m, hm⟩ : ∃ m, us.length = m := ⟨_, rfl⟩
          obtain rfl : n = m + 2 := by simp at hn1; omega
          obtain ⟨hu0, hu1⟩ := hu u (.tail _ (.head _))
          have hrest3 : Rd w B 1 (some ⟨a.block, a.off + 1, none⟩) (m + 1) ((u :: us).map rv) := by
            have h2 : m + 2 - 1 = m + 1 := by omega
            rw [h2] at hrest2
            exact hrest2
          obtain ⟨hd0, -, -, -⟩ := (hrest3.belowMono hbel hB).uncons (c := c - 1) (by omega)
          obtain ⟨-, -, hrest4, hone2⟩ := hrest3.uncons (c := c - 1) (by omega)
          clear hn1 hrest2
          obtain ⟨hv, hh⟩ : ∃ v, Hid (hiB r = v) := ⟨_, Lib.hid rfl⟩
          obtain ⟨lv, hl⟩ : ∃ v, Hid (loB r = v) := ⟨_, Lib.hid rfl⟩
          obtain ⟨uv, hlu⟩ : ∃ v, Hid (loB u = v) := ⟨_, Lib.hid rfl⟩
          cases hv
          · cases lv
            · have HST : Hid ((jn (u :: us)).map ((L ++ encodeRune r) ++ ·) = T) := Lib.hid (by
                have := HS.out
                rw [show jn (r :: u :: us) = (jn (u :: us)).map (encodeRune r ++ ·) by rw [jn, if_neg (by rw [hh.out]; simp), if_neg (by rw [hh.out, hl.out]; decide)], Option.map_map] at this
                rw [← this]
                congr 1
                funext x
                simp)
              clear HS hrest4 hone2 hd0
              go_wp2_with fail
              refine (isHigh_any (r := r)).mono ?_
              rintro e w5 ⟨rfl, rfl⟩
              rw [hh.out]
              go_wp2_with fail
              refine (isHigh_any (r := r)).mono ?_
              rintro e w5 ⟨rfl, rfl⟩
              rw [hh.out]
              go_wp2_with fail
              refine (isLow_any (r := r)).mono ?_
              rintro e w5 ⟨rfl, rfl⟩
              rw [hl.out]
              go_wp2_with fail
              refine (writeRune_any w.heap.size w.heap.size (byteCells L) (r) (by omega) (by omega) w5 hb (by rw [byteCells_len]; omega) hbel.size).mono ?_
              rintro e w6 ⟨rfl, hb6, hb6', -⟩
              have hb7 := builder_app hb6
              have hbel6 := hbel.trans hb6'
              have hle6 := enc_len (r)
              clear hb hb6 hb6' hbel
              go_wp2
              go_roundg ((m + 1) + 1)
              case measure => omega
              case rel => exact ⟨some ⟨a.block, a.off + 1, none⟩, (m + 1), (c - 1), (u :: us), L ++ encodeRune (r), by first | rfl | go_num, by omega, hrest3, by omega, by simp at hlen ⊢; omega, (fun x hx => hu x (.tail _ hx)), by rw [List.length_append]; omega, .inr hb7, hbel6, HST⟩
            · clear hrest4 hone2 hd0
              have hT : T = none := by have := HS.out; rw [show jn _ = none from by rw [jn, if_neg (by rw [hh.out]; simp), if_pos (by rw [hh.out, hl.out]; decide)]] at this; exact this.symm
              subst hT
              clear HS
              go_wp2_with fail
              refine (isHigh_any (r := r)).mono ?_
              rintro e w5 ⟨rfl, rfl⟩
              rw [hh.out]
              go_wp2_with fail
              refine (isHigh_any (r := r)).mono ?_
              rintro e w5 ⟨rfl, rfl⟩
              rw [hh.out]
              go_wp2_with fail
              refine (isLow_any (r := r)).mono ?_
              rintro e w5 ⟨rfl, rfl⟩
              rw [hl.out]
              go_wp2
              go_ret2
              exact ⟨rfl, hbel⟩
          · cases uv
            · clear hrest4 hone2
              have hT : T = none := by have := HS.out; rw [show jn _ = none from by rw [jn, if_neg (by rw [hh.out, hlu.out]; decide), if_pos (by rw [hh.out]; rfl)]] at this; exact this.symm
              subst hT
              clear HS
              go_wp2_with fail
              refine (isHigh_any (r := r)).mono ?_
              rintro e w5 ⟨rfl, rfl⟩
              rw [hh.out]
              go_wp2_with fail
              refine (isLow_any (r := u)).mono ?_
              rintro e w5 ⟨rfl, rfl⟩
              rw [hlu.out]
              go_wp2_with fail
              refine (isHigh_any (r := r)).mono ?_
              rintro e w5 ⟨rfl, rfl⟩
              rw [hh.out]
              go_wp2
              go_ret2
              exact ⟨rfl, hbel⟩
            · have HST : Hid ((jn us).map ((L ++ encodeRune (65536 + (r % 1024 * 1024 + u % 1024))) ++ ·) = T) := Lib.hid (by
                have := HS.out
                rw [show jn (r :: u :: us) = (jn us).map (encodeRune (65536 + (r % 1024 * 1024 + u % 1024)) ++ ·) by rw [jn, if_pos (by rw [hh.out, hlu.out]; rfl)], Option.map_map] at this
                rw [← this]
                congr 1
                funext x
                simp)
              have b1 : bits .and .i32 r 1023 = r % 1024 := i32_and _ hr0 (by omega)
              have b2 : bits .and .i32 u 1023 = u % 1024 := i32_and _ hu0 (by omega)
              have b3 : bits .or .i32 (r % 1024 * 1024) (u % 1024) = r % 1024 * 1024 + u % 1024 := i32_or _ _ (by omega) (by omega) (by omega) (by omega) (by omega)
              have hh2 : Hid (hiB (65536 + (r % 1024 * 1024 + u % 1024)) = false) := Lib.hid (by unfold hiB; rw [decide_eq_false]; omega)
              have hl2 : Hid (loB (65536 + (r % 1024 * 1024 + u % 1024)) = false) := Lib.hid (by unfold loB; rw [decide_eq_false]; omega)
              clear HS
              by_cases hc2 : c - 1 = 1
              · obtain rfl : us = [] := hone2 hc2
                obtain rfl : m = 0 := by simpa using hm.symm
                clear hone2 hrest4
                go_wp2_with fail
                refine (isHigh_any (r := r)).mono ?_
                rintro e w5 ⟨rfl, rfl⟩
                rw [hh.out]
                go_wp2_with fail
                refine (isLow_any (r := u)).mono ?_
                rintro e w5 ⟨rfl, rfl⟩
                rw [hlu.out]
                go_wp2_with fail
                refine (isHigh_any (r := 65536 + (r % 1024 * 1024 + u % 1024))).mono ?_
                rintro e w5 ⟨rfl, rfl⟩
                rw [hh2.out]
                go_wp2_with fail
                refine (isLow_any (r := 65536 + (r % 1024 * 1024 + u % 1024))).mono ?_
                rintro e w5 ⟨rfl, rfl⟩
                rw [hl2.out]
                go_wp2_with fail
                refine (writeRune_any w.heap.size w.heap.size (byteCells L) (65536 + (r % 1024 * 1024 + u % 1024)) (by omega) (by omega) w5 hb (by rw [byteCells_len]; omega) hbel.size).mono ?_
                rintro e w6 ⟨rfl, hb6, hb6', -⟩
                have hb7 := builder_app hb6
                have hbel6 := hbel.trans hb6'
                have hle6 := enc_len (65536 + (r % 1024 * 1024 + u % 1024))
                clear hb hb6 hb6' hbel
                go_wp2
                go_roundg (0 + 1)
                case measure => omega
                case rel => exact ⟨some ⟨a.block, a.off + 1, none⟩, 0, 0, [], L ++ encodeRune (65536 + (r % 1024 * 1024 + u % 1024)), by first | rfl | go_num, by omega, Rd.nil _ _ _ _, by omega, rfl, (fun x hx => by cases hx), by rw [List.length_append]; omega, .inr hb7, hbel6, HST⟩
              · have hrest5 := hrest4 hc2
                clear hone2 hrest4
                go_wp2_with fail
                refine (isHigh_any (r := r)).mono ?_
                rintro e w5 ⟨rfl, rfl⟩
                rw [hh.out]
                go_wp2_with fail
                refine (isLow_any (r := u)).mono ?_
                rintro e w5 ⟨rfl, rfl⟩
                rw [hlu.out]
                go_wp2_with fail
                refine (isHigh_any (r := 65536 + (r % 1024 * 1024 + u % 1024))).mono ?_
                rintro e w5 ⟨rfl, rfl⟩
                rw [hh2.out]
                go_wp2_with fail
                refine (isLow_any (r := 65536 + (r % 1024 * 1024 + u % 1024))).mono ?_
                rintro e w5 ⟨rfl, rfl⟩
                rw [hl2.out]
                go_wp2_with fail
                refine (writeRune_any w.heap.size w.heap.size (byteCells L) (65536 + (r % 1024 * 1024 + u % 1024)) (by omega) (by omega) w5 hb (by rw [byteCells_len]; omega) hbel.size).mono ?_
                rintro e w6 ⟨rfl, hb6, hb6', -⟩
                have hb7 := builder_app hb6
                have hbel6 := hbel.trans hb6'
                have hle6 := enc_len (65536 + (r % 1024 * 1024 + u % 1024))
                clear hb hb6 hb6' hbel
                go_wp2
                go_roundg (m + 1)
                case measure => omega
                case rel => exact ⟨some ⟨a.block, a.off + 1 + 1, none⟩, m, (c - 1 - 1), us, L ++ encodeRune (65536 + (r % 1024 * 1024 + u % 1024)), by first | rfl | go_num, by omega, hrest5, by omega, by simp at hlen ⊢; omega, (fun x hx => hu x (.tail _ (.tail _ hx))), by rw [List.length_append]; omega, .inr hb7, hbel6, HST⟩
end Go.Proofs.YtllcecnkbndokaaGreatDoor
