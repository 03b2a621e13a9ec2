/- SubCounts by its contract: it returns true. No condition but that both arguments are bytes. -/
import Derived.Test.YtliidkampllddaaCounts1
import Derived.Test.YtliidkampllddaaLit
namespace Go.Proofs.Ytliidkampllddaa
open Go.RowKit

theorem own_gF {w : World} {F : Nat → Prop} {base : Nat} {e : TypeId} {v : Value} {L : List RecM} (h : OwnF recForm w F base e v L) : ∃ A c, v = .slice A L.length c ∧ L.length ≤ c ∧ (0 < L.length → ∃ g, A = some ⟨g, 0, none⟩ ∧ base ≤ g) := by
  obtain ⟨S, h1, h2, ho⟩ := h.ex
  rcases ho.2 with ⟨rfl, hl⟩ | ⟨g, cap, cur, rfl, hb, _, hnc, _⟩
  · exact ⟨none, 0, by rw [hl], by omega, fun h0 => absurd h0 (by omega)⟩
  · exact ⟨_, cap, rfl, hnc, fun _ => ⟨g, rfl, hb⟩⟩

theorem rows_one {w : World} {F : Nat → Prop} {S : List (List Value × RecM)} (h : ∀ p ∈ S, recForm.R w F p.1 p.2) : ∀ u ∈ S.flatMap (·.1), u.oneCell' = true := by
  intro u hu
  obtain ⟨p, hp, hu⟩ := List.mem_flatMap.1 hu
  obtain ⟨D, dc, C, cc, e, _⟩ := h p hp
  rw [e] at hu
  simp only [List.mem_cons, List.not_mem_nil, or_false] at hu
  rcases hu with rfl | rfl | rfl | rfl <;> rfl

theorem around_read {w w6 : World} {F : Nat → Prop} {base i m : Nat} {e : TypeId} {v6 : Value} {S : List (List Value × RecM)} {L : List RecM} (h1 : S.map (·.2) = L) (h2 : ∀ p ∈ S, recForm.R w F p.1 p.2) (hF : ∀ i, F i → i < w.heap.size) (hb : Below w.heap.size w w6)
    (o6 : w6.ownsRow base e 4 v6 m (([] ++ (S.take i).flatMap (·.1)) ++ (S.drop (i + 1)).flatMap (·.1))) : ∃ A c, v6 = .slice A m c ∧ RecsRd w6 w6.heap.size A m (L.take i ++ L.drop (i + 1)) := by
  obtain ⟨A, c, rfl, -, -, hr⟩ := own_form o6
  rw [List.nil_append, ← List.flatMap_append] at hr
  have hmem : ∀ p ∈ S.take i ++ S.drop (i + 1), recForm.R w F p.1 p.2 := by
    intro p hp
    rcases List.mem_append.1 hp with hp | hp
    · exact h2 p (List.mem_of_mem_take hp)
    · exact h2 p (List.mem_of_mem_drop hp)
  have hfl : ((S.take i ++ S.drop (i + 1)).flatMap (·.1)).length = (S.take i ++ S.drop (i + 1)).length * 4 := flat_len fun p hp => recForm.len (hmem p hp)
  have hmm : (S.take i ++ S.drop (i + 1)).length = m := by have := hr.len; omega
  refine ⟨A, c, rfl, (RowF.flat (f := recForm) (S := S.take i ++ S.drop (i + 1)) ?_ (fun p hp => recForm.move (Move.of_below hb hF fun i hi => Nat.lt_of_lt_of_le (hF i hi) hb.size) (hmem p hp)) (hr.rdF fun i hi => hi) ?_).recs⟩
  · rw [List.map_append, List.map_take, List.map_drop, h1]
  · rw [← hmm, List.length_append, List.length_append, ← h1, List.length_take, List.length_take, List.length_drop, List.length_drop, List.length_map]

set_option maxHeartbeats 3000000 in
set_option maxRecDepth 100000 in
theorem subCounts_any {w : World} {a b : Int} (ha0 : 0 ≤ a) (ha1 : a ≤ 255) (hb0' : 0 ≤ b) (hb1' : b ≤ 255) :
    Calls Try.prog 5 #[.int .u8 a, .int .u8 b] w fun e w' => e = .returned (.bool true) ∧ Below w.heap.size w w' := by
  obtain ⟨k, hk, hk12⟩ : ∃ k : Nat, a % 12 = (k : Int) ∧ k < 12 := ⟨(a % 12).toNat, by omega, by omega⟩
  have HK := Lib.hid hk
  clear hk
  go_enter Try.func5, Try.ntmps5
  go_wp2_with fail
  refine (known2_any w).mono ?_
  rintro e w0 ⟨rfl, hb0⟩
  have hmk := run_make_streams k hk12
  have hko := HK.out
  go_wp2_with fail
  have kb0 : Bk (w0.alloc (.cells (kcf k 0).toArray 41)) w0.heap.size 41 (kcf k 0).toArray := Bk.new w0 _ _
  have bb0 : Below w0.heap.size w0 (w0.alloc (.cells (kcf k 0).toArray 41)) := (Below.refl _ _).alloc (Nat.le_refl _) _
  clear hmk hko
  generalize hW0 : w0.alloc (.cells (kcf k 0).toArray 41) = W0 at *
  clear hW0
  go_loopw [7] (fun i wr => ∃ j : Nat, j ≤ k ∧ i = .int .i64 j ∧ Bk wr w0.heap.size 41 (kcf k j).toArray ∧ Below w0.heap.size w0 wr) (fun i _ => k - (intOf i).toNat)
  case atStart => exact ⟨0, Nat.zero_le _, rfl, kb0, bb0⟩
  case round =>
    obtain ⟨j, hj, rfl, hkb, hbel⟩ := hrel
    by_cases hjk : j < k
    · have hjk' : (j : Int) < (k : Int) := by omega
      obtain ⟨u0, c0⟩ : ∃ u0, wr.cell? ⟨w0.heap.size, j * 2, none⟩ = some u0 := by
        have hl : (kcf k j).length = k * 2 := by simp [kcf]
        refine ⟨(kcf k j)[j * 2]'(by omega), ?_⟩
        rw [hkb.cell]
        simp only [List.getElem?_toArray]
        exact List.getElem?_eq_getElem (by omega)
      have f0 := hkb.frozen (j * 2)
      have kb2 : Bk (wr.setCell ⟨w0.heap.size, j * 2, none⟩ (.int .i64 j)) w0.heap.size 41 (kcf k (j + 1)).toArray := by
        have := hkb.set_ (j * 2) (.int .i64 j)
        rw [List.setIfInBounds_toArray, kcf_set] at this
        exact this
      have hb2 : Below w0.heap.size w0 (wr.setCell ⟨w0.heap.size, j * 2, none⟩ (.int .i64 j)) := hbel.setCell (Nat.le_refl _) _
      clear hkb
      go_wp2
      go_roundw
      case rel => exact ⟨j + 1, by omega, by go_num, kb2, hb2⟩
      case measure => simp [intOf]; omega
    · obtain rfl : j = k := by omega
      have hjk' : ¬ (j : Int) < (j : Int) := by omega
      have hst := streams_laid hk12 hkb
      obtain ⟨W1, rfl⟩ : ∃ W1 : World, W1 = wr := ⟨_, rfl⟩
      have b1 := hb0.trans (hbel.mono hb0.size)
      go_wp2_with fail
      refine (join_any hst (Nat.le_refl _) (scSmall j)).mono ?_
      rintro e w2 ⟨v2, rfl, o2, hb2⟩
      have b2 := b1.trans (hb2.mono b1.size)
      by_cases h9 : 9 < j
      · have h9' : (9 : Int) < (j : Int) := by omega
        obtain ⟨x1, x2⟩ := scJoin_more ⟨j, hk12⟩ h9
        have x1' : (joinM (scS j)).2 = 4 := x1
        have x2' : (joinM (scS j)).1.length = 0 := x2
        obtain ⟨A2, c2, rfl, hc2⟩ := o2.form
        rw [x1', x2']
        clear o2 x1 x2 x1' x2'
        go_wp2
        go_ret
        exact ⟨rfl, b2⟩
      · have h9' : ¬ (9 : Int) < (j : Int) := by omega
        have hL := scLen_all ⟨j, by omega⟩
        simp only [scLen, decide_eq_true_eq] at hL
        obtain ⟨l1, l2, l3, l4⟩ := hL
        obtain ⟨A2, c2, rfl, hc2, hg2⟩ := own_gF o2
        rw [l1]
        rw [l2] at hc2 hg2 ⊢
        obtain ⟨R, hR⟩ : ∃ R, (joinM (scS j)).1 = R := ⟨_, rfl⟩
        rw [hR] at o2 l2
        have HR := Lib.hid hR
        have HL2 := Lib.hid l2
        have HL3 := Lib.hid l3
        have HL4 := Lib.hid l4
        have o3 : OwnF recForm w2 (But w2 (Mine (.slice A2 (2 * j) c2))) W1.heap.size 49 (.slice A2 (2 * j) c2) (setAt R 0) := by rw [l2] at o2; exact o2
        have hs2 := hb2.size
        clear hR l1 l2 l3 l4 o2
        go_wp2
        go_loopw [10] (fun i wr => ∃ q : Nat, q ≤ 2 * j ∧ i = .int .i64 q ∧ OwnF recForm wr (But wr (Mine (.slice A2 (2 * j) c2))) W1.heap.size 49 (.slice A2 (2 * j) c2) (setAt R q) ∧ Below W1.heap.size W1 wr) (fun i _ => 2 * j - (intOf i).toNat)
        case atStart => exact ⟨0, Nat.zero_le _, rfl, o3, hb2⟩
        case round =>
          obtain ⟨q, hq, rfl, ho, hbel⟩ := hrel
          have hs := hbel.size
          by_cases hqj : q < 2 * j
          · obtain ⟨g, rfl, hg⟩ := hg2 (by omega)
            have hqj' : (q : Int) < 2 * (j : Int) := by omega
            obtain ⟨r, hr⟩ : ∃ r, (setAt R q)[q]? = some r := ⟨_, List.getElem?_eq_getElem (by rw [setAt_len, HL2.out]; exact hqj)⟩
            obtain ⟨ho2, f0, c0⟩ := ho.place (u := 10 * (q : Int)) (by rw [setAt_len, HL2.out]) hr
            rw [← setAt_step hr] at ho2
            have hb2 : Below W1.heap.size W1 (wr.setCell ⟨g, q * 4 + 3, none⟩ (.int .i64 (10 * (q : Int)))) := hbel.setCell hg _
            clear hr ho
            go_wp2
            go_roundw
            case rel => exact ⟨q + 1, by omega, by go_num, ho2, hb2⟩
            case measure => simp [intOf]; omega
          · obtain rfl : q = 2 * j := by omega
            have hqj' : ¬ 2 * (j : Int) < 2 * (j : Int) := by omega
            obtain ⟨W3, rfl⟩ : ∃ W3 : World, W3 = wr := ⟨_, rfl⟩
            have b3 := b1.trans (hbel.mono b1.size)
            have hlen : (setAt R (2 * j)).length = 2 * j := by rw [setAt_len, HL2.out]
            have HLN := Lib.hid hlen
            obtain ⟨A3, c3, e3, -, hr3⟩ := ho.read (F' := (· < W3.heap.size)) (fun i hi => (ho.lt i hi).2) fun i hi => hi.1
            simp only [Value.slice.injEq] at e3
            obtain ⟨rfl, -, rfl⟩ := e3
            rw [hlen] at hr3
            clear hlen
            have hwide : ∀ r ∈ setAt R (2 * j), Wide r := by rw [← HR.out]; exact scWide (by omega)
            have HWD := Lib.hid hwide
            clear hwide
            go_wp2_with fail
            refine (split_any hr3.recs (Nat.le_refl _) (by omega) HWD.out).mono ?_
            rintro e w4 ⟨v4, rfl, o4, hb4⟩
            have e4 : (splitM [] none (setAt R (2 * j))).2.2 = 0 := by have := HL3.out; rw [← HR.out]; exact this
            have e5 : (splitM [] none (setAt R (2 * j))).1.length = j := by have := HL4.out; rw [← HR.out]; exact this
            obtain ⟨A4, c4, rfl, hc4⟩ := o4.form
            rw [e4, e5]
            generalize (splitM [] none (setAt R (2 * j))).2.1 = at4
            have ho4 := ho.below hb4
            have b4 := b3.trans (hb4.mono b3.size)
            clear o4 e4 e5 hc4 hr3 ho hbel
            rcases Nat.eq_zero_or_pos j with hj0 | hj0
            · subst hj0
              go_wp2
              go_ret
              exact ⟨rfl, b4⟩
            · have hj0' : ((j : Int) == 0) = false := by simp; omega
              obtain ⟨i0, hi, hi2⟩ : ∃ i0 : Nat, b % (2 * (j : Int)) = (i0 : Int) ∧ i0 < 2 * j := by
                have h1 := Int.emod_nonneg b (show (2 * (j : Int)) ≠ 0 by omega)
                have h2 := Int.emod_lt_of_pos b (show 0 < 2 * (j : Int) by omega)
                exact ⟨(b % (2 * (j : Int))).toNat, by omega, by omega⟩
              have hjj0 : (2 * (j : Int)) ≠ 0 := by omega
              have hjj1 : 0 ≤ 2 * (j : Int) := by omega
              have HI := Lib.hid hi
              obtain ⟨a', c', S, e6, hc', hS1, hS2, rd1, rd2⟩ := ho4.around (fun i hi => hi.1) i0 (by rw [HLN.out]; exact hi2)
              rw [HLN.out] at e6 rd2
              simp only [Value.slice.injEq] at e6
              obtain ⟨rfl, -, rfl⟩ := e6
              have hO := scOut_all ⟨j, by omega⟩ ⟨i0, by omega⟩ hi2
              simp only [scOut, decide_eq_true_eq] at hO
              rw [show scR j = setAt R (2 * j) by unfold scR; rw [HR.out]] at hO
              have HQ1 := Lib.hid hO.1
              have HQ2 := Lib.hid hO.2.1
              have HQ3 := Lib.hid hO.2.2
              clear hO
              clear hi
              go_upto_region 24 with fail
              rw [HI.out]
              have i1 : (i0 : Int) ≤ (c2 : Int) := by omega
              have i2 : (i0 : Int) + 1 ≤ 2 * (j : Int) := by omega
              have i3 : 2 * (j : Int) ≤ (c2 : Int) := by omega
              have i4 : (i0 : Int) + 1 ≤ (c2 : Int) := by omega
              have hw : IntKind.i64.wrap ((i0 : Int) + 1) = (i0 : Int) + 1 := IntWalk.i64_in _ (by omega)
              have hx : ((i0 : Int) + 1).toNat = i0 + 1 := by omega
              have n1 : ∀ u ∈ (S.take i0).flatMap (·.1), u.oneCell' = true := rows_one fun p hp => hS2 p (List.mem_of_mem_take hp)
              have n2 : ∀ u ∈ (S.drop (i0 + 1)).flatMap (·.1), u.oneCell' = true := rows_one fun p hp => hS2 p (List.mem_of_mem_drop hp)
              have m1 : 0 + i0 ≤ maxLen := by unfold maxLen; omega
              have m2 : (0 + i0) * 64 ≤ 140737488355328 := by omega
              have m3 : (0 + i0) + (2 * j - (i0 + 1)) ≤ maxLen := by unfold maxLen; omega
              have m4 : ((0 + i0) + (2 * j - (i0 + 1))) * 64 ≤ 140737488355328 := by omega
              have hE : ((w4.alloc (.cells #[] 49)).drew).ownsRow w4.heap.size 49 4 (.slice (some ⟨w4.heap.size, 0, none⟩) 0 0) 0 [] := World.ownsRow_made (base := w4.heap.size) (size := 4) w4 #[] 0 (Nat.le_refl _) (by simp [maxLen]) (by simp)
              have bE : Below w4.heap.size w4 ((w4.alloc (.cells #[] 49)).drew) := ((Below.refl _ _).alloc (Nat.le_refl _) _).drew
              have rE := rd1.below bE
              have rF := rd2.below bE
              have zE : w4.heap.size ≤ ((w4.alloc (.cells #[] 49)).drew).heap.size := by simp
              have hln : (i0 : Int) < 2 * (j : Int) := by omega
              have i5 : 0 ≤ (i0 : Int) + 1 := by omega
              have i6 : (i0 : Int) ≤ (i0 : Int) + 1 := by omega
              have hmx : i0 + (2 * j - (i0 + 1)) ≤ 100 := by omega
              by_cases hci : c2 = i0 + 1
              · have h2j : 2 * j = i0 + 1 := by omega
                have hd : S.drop (i0 + 1) = [] := List.drop_eq_nil_of_le (by have := congrArg List.length hS1; rw [List.length_map, HLN.out] at this; omega)
                rw [if_pos hci] at rF
                subst hci
                obtain ⟨m, hm⟩ : ∃ m, 0 + i0 + 0 = m := ⟨_, rfl⟩
                have hm100 : m ≤ 1000000 := by omega
                have rF2 : Rd ((w4.alloc (.cells #[] 49)).drew) w4.heap.size 4 (some a') 0 ((S.drop (i0 + 1)).flatMap (·.1)) := by rw [hd]; exact Rd.nil _ _ _ _
                have m3' : (0 + i0) + 0 ≤ maxLen := m1
                have m4' : ((0 + i0) + 0) * 64 ≤ 140737488355328 := m2
                have HD := Lib.hid hd
                have H2J := Lib.hid h2j
                clear rF hd h2j m3 m4
                have rF := rF2
                have m3 := m3'
                have m4 := m4'
                clear rF2 m3' m4'
                have HS1 := Lib.hid hS1
                have HS2 := Lib.hid hS2
                clear hS1 hS2 rd1 rd2 ho4 hb4
                go_region_law (first
                  | (refine step_app recsRow rfl (.tmp 92) (.tmp 95) rfl rfl rfl hE rE n1 m1 m2 zE ?_
                     intro v5 w5 o5 _ b5
                     have z5 := Nat.le_trans zE b5.size
                     have r5 := rF.below b5)
                  | (refine step_app recsRow rfl (.tmp 96) (.tmp 100) rfl rfl rfl o5 r5 n2 m3 m4 z5 ?_
                     intro v6 w6 o6 _ b6))
                all_goals
                  rw [hm] at o6
                  have b46 := (bE.trans b5).trans b6
                  obtain ⟨A6, c6, rfl, r6⟩ := around_read HS1.out HS2.out (fun i hi => hi.1) b46 o6
                  have b6' := b4.trans (b46.mono b4.size)
                  have hwd : ∀ r ∈ (setAt R (2 * j)).take i0 ++ (setAt R (2 * j)).drop (i0 + 1), Wide r := by
                    intro r hr
                    rcases List.mem_append.1 hr with hr | hr
                    · exact HWD.out r (List.mem_of_mem_take hr)
                    · exact HWD.out r (List.mem_of_mem_drop hr)
                  have HW2 := Lib.hid hwd
                  have HM := Lib.hid hm
                  clear hwd hw hx n1 n2 m1 m2 m3 m4 hE bE rE rF zE o5 b5 z5 r5 o6 b6 b46 hmx hm
                  go_wp2_with fail
                  refine (split_any r6 (Nat.le_refl _) hm100 HW2.out).mono ?_
                  rintro e w7 ⟨v7, rfl, o7, hb7⟩
                  obtain ⟨A7, c7, rfl, hc7⟩ := o7.form
                  rw [HQ1.out, HQ2.out, HQ3.out]
                  have b7 := b6'.trans (hb7.mono b6'.size)
                  clear o7 hb7 hc7 r6
                  by_cases hlast : i0 + 1 = 2 * j
                  · rw [if_pos hlast, if_pos hlast]
                    have k1 : ((i0 : Int) == 2 * (j : Int) - 1) = true := by simp; omega
                    have k2 : ((10 * ((i0 : Int) - 1)) == (10 * ((i0 : Int) - 1))) = true := by simp
                    clear hlast
                    go_wp2
                    go_ret
                    exact ⟨rfl, b7⟩
                  · rw [if_neg hlast, if_neg hlast]
                    have k1 : ((i0 : Int) == 2 * (j : Int) - 1) = false := by simp; omega
                    have k2 : ((10 * ((i0 : Int) + 1)) == (10 * ((i0 : Int) + 1))) = true := by simp
                    clear hlast
                    by_cases hpar : i0 % 2 = 1
                    · have k3 : ((i0 : Int) % 2 == 1) = true := by simp; omega
                      clear hpar
                      go_wp2
                      go_ret
                      exact ⟨rfl, b7⟩
                    · have k3 : ((i0 : Int) % 2 == 1) = false := by simp; omega
                      clear hpar
                      go_wp2
                      go_ret
                      exact ⟨rfl, b7⟩
              · rw [if_neg hci] at rF
                have hci' : ¬ (i0 + 1 = c2) := fun e => hci e.symm
                obtain ⟨m, hm⟩ : ∃ m, 0 + i0 + (2 * j - (i0 + 1)) = m := ⟨_, rfl⟩
                have hm100 : m ≤ 1000000 := by omega
                have HS1 := Lib.hid hS1
                have HS2 := Lib.hid hS2
                clear hS1 hS2 rd1 rd2 ho4 hb4
                go_region_law (first
                  | (refine step_app recsRow rfl (.tmp 92) (.tmp 95) rfl rfl rfl hE rE n1 m1 m2 zE ?_
                     intro v5 w5 o5 _ b5
                     have z5 := Nat.le_trans zE b5.size
                     have r5 := rF.below b5)
                  | (refine step_app recsRow rfl (.tmp 96) (.tmp 100) rfl rfl rfl o5 r5 n2 m3 m4 z5 ?_
                     intro v6 w6 o6 _ b6))
                all_goals
                  rw [hm] at o6
                  have b46 := (bE.trans b5).trans b6
                  obtain ⟨A6, c6, rfl, r6⟩ := around_read HS1.out HS2.out (fun i hi => hi.1) b46 o6
                  have b6' := b4.trans (b46.mono b4.size)
                  have hwd : ∀ r ∈ (setAt R (2 * j)).take i0 ++ (setAt R (2 * j)).drop (i0 + 1), Wide r := by
                    intro r hr
                    rcases List.mem_append.1 hr with hr | hr
                    · exact HWD.out r (List.mem_of_mem_take hr)
                    · exact HWD.out r (List.mem_of_mem_drop hr)
                  have HW2 := Lib.hid hwd
                  have HM := Lib.hid hm
                  clear hwd hw hx n1 n2 m1 m2 m3 m4 hE bE rE rF zE o5 b5 z5 r5 o6 b6 b46 hmx hm
                  go_wp2_with fail
                  refine (split_any r6 (Nat.le_refl _) hm100 HW2.out).mono ?_
                  rintro e w7 ⟨v7, rfl, o7, hb7⟩
                  obtain ⟨A7, c7, rfl, hc7⟩ := o7.form
                  rw [HQ1.out, HQ2.out, HQ3.out]
                  have b7 := b6'.trans (hb7.mono b6'.size)
                  clear o7 hb7 hc7 r6
                  by_cases hlast : i0 + 1 = 2 * j
                  · rw [if_pos hlast, if_pos hlast]
                    have k1 : ((i0 : Int) == 2 * (j : Int) - 1) = true := by simp; omega
                    have k2 : ((10 * ((i0 : Int) - 1)) == (10 * ((i0 : Int) - 1))) = true := by simp
                    clear hlast
                    go_wp2
                    go_ret
                    exact ⟨rfl, b7⟩
                  · rw [if_neg hlast, if_neg hlast]
                    have k1 : ((i0 : Int) == 2 * (j : Int) - 1) = false := by simp; omega
                    have k2 : ((10 * ((i0 : Int) + 1)) == (10 * ((i0 : Int) + 1))) = true := by simp
                    clear hlast
                    by_cases hpar : i0 % 2 = 1
                    · have k3 : ((i0 : Int) % 2 == 1) = true := by simp; omega
                      clear hpar
                      go_wp2
                      go_ret
                      exact ⟨rfl, b7⟩
                    · have k3 : ((i0 : Int) % 2 == 1) = false := by simp; omega
                      clear hpar
                      go_wp2
                      go_ret
                      exact ⟨rfl, b7⟩
end Go.Proofs.Ytliidkampllddaa
