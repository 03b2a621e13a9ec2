/- cashbooklaw2.SubJoins: for whatever substreams it returns true. Conditions: the substreams read as such; known's contract. -/
import Derived.Test.YtifcdleibjnknaaSplitsLaw
import Derived.Test.YtifcdleibjnknaaTo2
import Derived.Test.YtifcdleibjnknaaLit
namespace Go.Proofs.Ytifcdleibjnknaa
open Go.RowKit

theorem joinGo_mem : ∀ (L : List StreamM), (∀ s ∈ L, ∀ r ∈ s.recs, Wide r) → ∀ r ∈ (joinGo L).1, Wide r
  | [], _, r, hr => by simp [joinGo] at hr
  | s :: L, h, r, hr => by
    unfold joinGo at hr
    split at hr
    · split at hr
      · simp only [List.mem_append, putSM, List.mem_cons, List.mem_map, List.not_mem_nil, or_false] at hr
        rcases hr with (rfl | ⟨q, hq, rfl⟩ | rfl) | hr
        · simp [Wide, bofR, b2]
        · exact h s (List.mem_cons_self ..) q hq
        · simp [Wide, eofR]
        · exact joinGo_mem L (fun s hs => h s (List.mem_cons_of_mem _ hs)) r hr
      · simp at hr
    · simp at hr
theorem joinGo_len : ∀ (L : List StreamM), (∀ s ∈ L, s.recs.length ≤ 60) → (joinGo L).1.length ≤ 62 * L.length
  | [], _ => by simp [joinGo]
  | s :: L, h => by
    have h1 := h s (List.mem_cons_self ..)
    have h2 := joinGo_len L fun s hs => h s (List.mem_cons_of_mem _ hs)
    unfold joinGo
    split
    · split
      · simp [putSM]; omega
      · simp
    · simp

theorem take_all_next {L : List StreamM} {k : Nat} {s : StreamM} (h : ∀ x ∈ L.take k, shortB x.recs = true) (hs : L[k]? = some s) (hb : shortB s.recs = true) : ∀ x ∈ L.take (k + 1), shortB x.recs = true := by
  intro x hx
  rw [List.take_add_one, hs] at hx
  rcases List.mem_append.1 hx with hx | hx
  · exact h x hx
  · simp at hx; subst hx; exact hb

set_option maxHeartbeats 8000000 in
set_option maxRecDepth 20000 in
theorem subJoins_any {w : World} {B n c : Nat} {A : Option Addr} {L : List StreamM} (h : RowF streamForm w (· < B) A n L) (hB : B ≤ w.heap.size) (hL : ∀ s ∈ L, (∀ r ∈ s.recs, Wide r) ∧ s.recs.length ≤ 1000000000000000000) :
    Calls Try.prog 4 #[.slice A n c] w fun e w' => e = .returned (.bool true) ∧ Below w.heap.size w w' := by
  have hnl := h.len
  go_enter Try.func4, Try.ntmps4
  go_wp2_with fail
  refine (known2_any _).mono ?_
  rintro e w1 ⟨rfl, hb1⟩
  have s1 := hb1.size
  have g1 := h.below hb1 hB
  by_cases h12 : 12 < n
  · have h12' : (12 : Int) < (n : Int) := by omega
    go_wp2
    go_ret
    exact ⟨rfl, hb1⟩
  have h12' : ¬ (12 : Int) < (n : Int) := by omega
  clear h
  go_wp2
  go_loopw [3, 4] (fun v i wr => ∃ k : Nat, k ≤ n ∧ i = .int .i64 k ∧ OwnF streamForm wr (But wr (Mine v)) w1.heap.size 41 v (L.take k) ∧ Below w1.heap.size w1 wr ∧ Hid (∀ x ∈ L.take k, shortB x.recs = true)) (fun _ i _ => n - (intOf i).toNat)
  case atStart => exact ⟨0, Nat.zero_le _, rfl, OwnF.nil _ _ _ _ _, Below.refl _ _, Lib.hid (by simp)⟩
  case round =>
    obtain ⟨k, hk, rfl, O, hbel, HS⟩ := hrel
    have hs := hbel.size
    by_cases hkn : k < n
    · have hkl : k < L.length := by omega
      obtain ⟨s, hs0⟩ : ∃ s, L[k]? = some s := ⟨_, List.getElem?_eq_getElem hkl⟩
      obtain ⟨hwide, _⟩ := hL s (List.mem_of_getElem? hs0)
      obtain ⟨a, A', c', rfl, hab, c0, c1, hcc, hr⟩ := (g1.below hbel (by omega)).stream hs0
      have hT : Hid (L.take (k + 1) = L.take k ++ [s]) := Lib.hid (by rw [List.take_add_one, hs0]; rfl)
      have hTl : (L.take k).length = k := by rw [List.length_take]; omega
      have HS0 := Lib.hid hs0
      obtain ⟨kind, R⟩ := s
      simp only at *
      clear hs0
      have hkn' : (k : Int) < (n : Int) := by omega
      by_cases hsh : shortB R = true
      · have h60 := short_len hsh
        have HS2 := Lib.hid (take_all_next HS.out HS0.out hsh)
        go_wp2_with fail
        refine (short_any hr).mono ?_
        rintro e wq ⟨rfl, rfl⟩
        rw [hsh]
        clear hsh
        obtain ⟨S, hS1, hS2, ho⟩ := O.ex
        obtain ⟨Av, vc, rfl, _⟩ := O.form
        have hlt := O.lt
        rw [hTl] at ho hS2 hlt ⊢
        go_wp2_with fail
        refine (to2_any hr (by omega) (by omega) hwide).mono ?_
        rintro e w2 ⟨A2, c2, rfl, hc2, hr2, hb2⟩
        have s2 := hb2.size
        have ho2 := own_below ho hb2
        go_wp2_with (at_builtin; refine wpList_app streamsRow rfl (.tmp 31) (.tmp 37) rfl rfl rfl (ho2.alloc _) (Rd.fresh _ _ 2 1 _ rfl) ?_ ?_ ?_ ?_ ?_)
        · first | exact ⟨rfl, rfl⟩ | (intro u hu; simp at hu; rcases hu with rfl | rfl <;> rfl)
        · unfold maxLen; omega
        · omega
        · simp; omega
        intro v3 w3 o3 g3 _
        have hbA : Below wr.heap.size wr (w2.alloc (.cells #[.int .i64 kind, .slice A2 R.length c2] 41)) := hb2.alloc s2 _
        have O3 : OwnF streamForm w3 (But w3 (Mine v3)) w1.heap.size 41 v3 (L.take k ++ [⟨kind, R⟩]) := by
          refine OwnF.app (w1 := w2.alloc (.cells #[.int .i64 kind, .slice A2 R.length c2] 41)) hS1 hS2 hbA g3 ⟨A2, c2, rfl, hc2, hr2.move fun i hi => ⟨⟨by have := hi.2; simp; omega, fun e => ?_⟩, ?_⟩⟩ (by rw [hTl]; exact o3)
          · have := (hlt i e).2; have := hi.1; omega
          · exact Below.heap_alloc w2 _ i hi.2
        have hb3 : Below w1.heap.size w1 w3 := (hbel.trans (hbA.mono hs)).trans (g3.below (ho2.alloc _) (by simp; omega))
        rw [← hT.out] at O3
        clear o3 g3 hbA ho2 ho hS1 hS2 O hr2 hr c0 c1
        go_wp2
        go_roundw
        case rel => exact ⟨k + 1, by omega, by go_num, O3, hb3, HS2⟩
        case measure => simp [intOf]; omega
      · have hsh' : shortB R = false := by simpa using hsh
        go_wp2_with fail
        refine (short_any hr).mono ?_
        rintro e wq ⟨rfl, rfl⟩
        rw [hsh']
        go_wp2
        go_ret
        exact ⟨rfl, hb1.trans (hbel.mono s1)⟩
    · obtain rfl : k = n := by omega
      have HS1 := HS.out
      rw [List.take_of_length_le (by omega)] at O HS1
      have hsmall : ∀ s ∈ L, s.recs.length ≤ 60 := fun s hs => short_len (HS1 s hs)
      have hSm : ∀ s ∈ L, Small s := fun s hs => ⟨by have := hsmall s hs; omega, (hL s hs).1⟩
      clear HS HS1
      have hkn' : ¬ (k : Int) < (k : Int) := by omega
      obtain ⟨As, cs, rfl, _, rs⟩ := O.read (F' := (· < wr.heap.size)) (fun i hi => (O.lt i hi).2) fun i hi => hi.1
      rw [hnl] at rs ⊢
      have hJl := joinGo_len L hsmall
      have hJw := joinGo_mem L fun s hs => (hL s hs).1
      clear hsmall O
      go_wp2_with fail
      refine (join_any rs (Nat.le_refl _) hSm).mono ?_
      rintro e w2 ⟨v2, rfl, o2, hb2⟩
      have s2 := hb2.size
      go_wp2_with fail
      refine (joinStreams_any ((g1.below hbel (by omega)).below hb2 (by omega)) (by omega) hSm).mono ?_
      rintro e w3 ⟨v3, rfl, o3, hb3⟩
      have s3 := hb3.size
      have g3 := ((g1.below hbel (by omega)).below hb2 (by omega)).below hb3 (by omega)
      have o2' := o2.below hb3
      have hbe : ((joinM L).2 != (joinM L).2) = false := by simp
      have hJM : (joinM L).1.length ≤ 62 * L.length ∧ (∀ r ∈ (joinM L).1, Wide r) := by
        unfold joinM
        split
        · exact ⟨by simp, by simp⟩
        · exact ⟨hJl, hJw⟩
      have hsplit : (joinM L).2 = 0 → splitM [] none (joinM L).1 = (L.map zeroAt, 0, 0) := by
        intro h0
        unfold joinM at h0 ⊢
        split
        · rename_i h9; rw [if_pos h9] at h0; cases h0
        · rename_i h9
          rw [if_neg h9] at h0
          simpa using joined_split L [] h0 (by simp; omega)
      obtain ⟨hJ1, hJ2⟩ := hJM
      have HJ2 := Lib.hid hJ2
      have HSP := Lib.hid hsplit
      have HSm := Lib.hid hSm
      obtain ⟨A3, c3, rfl, _, r3⟩ := o2'.read (F' := (· < w3.heap.size)) (fun i hi => (o2'.lt i hi).2) fun i hi => hi.1
      obtain ⟨A4, c4, rfl, _, r4⟩ := o3.read (F' := (· < w3.heap.size)) (fun i hi => (o3.lt i hi).2) fun i hi => hi.1
      have b03 : Below w.heap.size w w3 := (hb1.trans (hbel.mono s1)).trans ((hb2.mono (by omega)).trans (hb3.mono (by omega)))
      clear hJl hJw hSm rs hb2 hb3 o2 o3 o2' hsplit hJ2 hbel g1
      go_wp2_with fail
      refine (sameAllP_any r3.recs r4.recs (Nat.le_refl _) (by omega) fun i r s h1 h2 => by rw [h1] at h2; injection h2 with h2; subst h2; exact ⟨⟨rfl, rfl, rfl⟩, rfl⟩).mono ?_
      rintro e w4 ⟨rfl, hb4⟩
      have s4 := hb4.size
      have b04 : Below w.heap.size w w4 := b03.trans (hb4.mono (by omega))
      by_cases her : (joinM L).2 = 0
      · have hb0 : ((joinM L).2 != 0) = false := by simp [her]
        have HSP2 := Lib.hid (HSP.out her)
        have g4 := g3.below hb4 (by omega)
        have r5 := r3.recs.below hb4 (Nat.le_refl _)
        clear her r3 r4 g3 HSP
        go_wp2_with fail
        refine (split_any r5 (by omega) (by omega) HJ2.out).mono ?_
        rintro e w5 ⟨v5, rfl, o5, hb5⟩
        rw [HSP2.out] at o5 ⊢
        have s5 := hb5.size
        obtain ⟨A5, c5, e5, _, r6⟩ := o5.read (F' := (· < w5.heap.size)) (fun i hi => (o5.lt i hi).2) fun i hi => hi.1
        rw [List.length_map, hnl] at e5 r6
        subst e5
        have g5 := g4.below hb5 (by omega)
        have b05 : Below w.heap.size w w5 := b04.trans (hb5.mono (by omega))
        have s05 := b05.size
        have hbk : ((k : Int) != (k : Int)) = false := by simp
        clear o5 hb5 g4 r5 HSP2 hb4 b03 b04
        go_wp2
        go_loopw [12] (fun i wi => ∃ q : Nat, q ≤ k ∧ i = .int .i64 q ∧ Below w5.heap.size w5 wi) (fun i _ => k - (intOf i).toNat)
        case atStart => exact ⟨0, Nat.zero_le _, rfl, Below.refl _ _⟩
        case round =>
          obtain ⟨q, hq, rfl, hbq⟩ := hrel
          have sq := hbq.size
          by_cases hqk : q < k
          · have hql : q < L.length := by omega
            obtain ⟨s, hs0⟩ : ∃ s, L[q]? = some s := ⟨_, List.getElem?_eq_getElem hql⟩
            have hs1 : (L.map zeroAt)[q]? = some (zeroAt s) := by rw [List.getElem?_map, hs0]; rfl
            obtain ⟨a6, A6, c6, rfl, hab6, x0, x1, hcc6, hr6⟩ := (r6.below hbq (Nat.le_refl _)).stream hs1
            obtain ⟨a7, A7, c7, rfl, hab7, y0, y1, hcc7, hr7⟩ := (g5.below hbq (by omega)).stream hs0
            have hlen := (HSm.out s (List.mem_of_getElem? hs0)).1
            obtain ⟨kind, R⟩ := s
            have x0' : wr.cell? (a6.add (q * 2)) = some (.int .i64 kind) := x0
            have x1' : wr.cell? ⟨(a6.add (q * 2)).block, (a6.add (q * 2)).off + 1, none⟩ = some (.slice A6 R.length c6) := by have := x1; simpa [zeroAt] using this
            have hr6' : RecsRd wr w5.heap.size A6 R.length (R.map at0) := by simpa [zeroAt] using hr6
            have hr7' : RecsRd wr w5.heap.size A7 R.length R := hr7.mono (by omega)
            simp only at y0 y1 hlen
            have hqk' : (q : Int) < (k : Int) := by omega
            have hkd : (kind != kind) = false := by simp
            clear hr6 hr7
            have hr6 := hr6'
            have hr7 := hr7'
            have sq6 : w5.heap.size ≤ wr.heap.size := sq
            have hp6 : (a6.add (q * 2)).block < wr.heap.size := by omega
            have hp7 : (a7.add (q * 2)).block < wr.heap.size := by omega
            have hali : ∀ (i : Nat) r s, (R.map at0)[i]? = some r → R[i]? = some s → alikeM r s := fun i r s h1 h2 => by rw [List.getElem?_map, h2] at h1; simp at h1; subst h1; exact ⟨rfl, rfl, rfl⟩
            have hH6 : S6S wr (a6.add (q * 2)) (a7.add (q * 2)) kind (.slice A6 R.length c6) (.slice A7 R.length c7) [] wr := ⟨Below.refl _ _, x0', x1', y0, y1⟩
            clear x0 x1 hs0 hs1 hcc6 hcc7 x0' x1' y0 y1 hr6' hr7'
            go_wp2_with fail
            refine wp_region_phases (S := S6S wr (a6.add (q * 2)) (a7.add (q * 2)) kind (.slice A6 R.length c6) (.slice A7 R.length c7)) (E := fun W W' => Below wr.heap.size W W') [] [(0, Is (.slice (some a7) k c)), (1, Is (undef)), (2, Is (u2)), (3, Is (.slice As k cs)), (4, Is (.int .i64 ↑k)), (5, Is (.slice A3 (joinM L).fst.length c3)), (6, Is (.int .i64 (joinM L).snd)), (7, Is (.slice A4 (joinM L).fst.length c4)), (8, Is (.int .i64 (joinM L).snd)), (9, Is (.slice (some a6) k c5)), (10, Is (.int .i64 0)), (11, Is (.int .i64 0)), (12, Is (.int .i64 ↑q)), (13, Is (.bool true)), (14, Is (.bool false)), (15, Is (.slice (some a7) k c)), (16, Is (.int .i64 ↑k)), (17, Is (.bool (decide ((12 : Int) < (k : Int))))), (18, Is (.int .i64 ↑k)), (19, Is (.slice (some a7) k c)), (20, Is (.int .i64 ↑k)), (21, Is (.bool false)), (22, Is (u22)), (23, Is (u23)), (24, Is (u24)), (25, Is (u25)), (26, Is (u26)), (27, Is (u27)), (28, Is (u28)), (29, Is (u29)), (30, Is (u30)), (31, Is (u31)), (32, Is (u32)), (33, Is (u33)), (34, Is (u34)), (35, Is (u35)), (36, Is (u36)), (37, Is (u37)), (38, Is (u38)), (39, Is (.tuple #[.slice A3 (joinM L).fst.length c3, .int .i64 (joinM L).snd])), (40, Is (.slice As k cs)), (41, Is (.tuple #[.slice A3 (joinM L).fst.length c3, .int .i64 (joinM L).snd])), (42, Is (.slice A3 (joinM L).fst.length c3)), (43, Is (.int .i64 (joinM L).snd)), (44, Is (.tuple #[.slice A4 (joinM L).fst.length c4, .int .i64 (joinM L).snd])), (45, Is (.slice (some a7) k c)), (46, Is (.tuple #[.slice A4 (joinM L).fst.length c4, .int .i64 (joinM L).snd])), (47, Is (.slice A4 (joinM L).fst.length c4)), (48, Is (.int .i64 (joinM L).snd)), (49, Is (.int .i64 (joinM L).snd)), (50, Is (.int .i64 (joinM L).snd)), (51, Is (.bool false)), (52, Is (.bool false)), (53, Is (.slice A3 (joinM L).fst.length c3)), (54, Is (.slice A4 (joinM L).fst.length c4)), (55, Is (.bool true)), (56, Is (.bool false)), (57, Is (.bool false)), (58, Is (.int .i64 (joinM L).snd)), (59, Is (.bool false)), (60, Is (.tuple #[.slice (some a6) k c5, .int .i64 0, .int .i64 0])), (61, Is (.slice A3 (joinM L).fst.length c3)), (62, Is (.tuple #[.slice (some a6) k c5, .int .i64 0, .int .i64 0])), (63, Is (.slice (some a6) k c5)), (64, Is (.int .i64 0)), (65, Is (.int .i64 0)), (66, Is (.int .i64 0)), (67, Is (.bool false)), (68, Is (.bool false)), (69, Is (.slice (some a6) k c5)), (70, Is (.int .i64 ↑k)), (71, Is (.slice (some a7) k c)), (72, Is (.int .i64 ↑k)), (73, Is (.bool false)), (74, Is (.bool false))] [(81, Is (.slice (some a6) k c5)), (82, Is (.int .i64 q)), (83, Is (.pointer (some (a6.add (q * 2))))), (84, Is (.pointer (some (a6.add (q * 2))))), (85, Is (.int .i64 kind)), (86, Is (.slice (some a7) k c)), (87, Is (.int .i64 q)), (88, Is (.pointer (some (a7.add (q * 2))))), (89, Is (.pointer (some (a7.add (q * 2))))), (90, Is (.int .i64 kind)), (91, Is (.bool false)), (92, Is (.bool false)), (93, Is (.slice (some a6) k c5)), (94, Is (.int .i64 q)), (95, Is (.pointer (some (a6.add (q * 2))))), (96, Is (.pointer (some ⟨(a6.add (q * 2)).block, (a6.add (q * 2)).off + 1, none⟩))), (97, Is (.slice A6 R.length c6)), (98, Is (.slice (some a7) k c)), (99, Is (.int .i64 q)), (100, Is (.pointer (some (a7.add (q * 2))))), (101, Is (.pointer (some ⟨(a7.add (q * 2)).block, (a7.add (q * 2)).off + 1, none⟩))), (102, Is (.slice A7 R.length c7)), (103, Is (.bool true)), (104, Is (.bool false)), (105, Is (.bool false))]
              [.op [9] none, .op [12] none, .op [81, 82] none, .op [83] none, .op [84] none, .op [0] none, .op [12] none, .op [86, 87] none, .op [88] none, .op [89] none, .op [85, 90] none, .op [91] none, .op [9, 92] (some (92, false)), .op [12, 92] (some (92, false)), .op [93, 94, 92] (some (92, false)), .op [95, 92] (some (92, false)), .op [96, 92] (some (92, false)), .op [0, 92] (some (92, false)), .op [12, 92] (some (92, false)), .op [98, 99, 92] (some (92, false)), .op [100, 92] (some (92, false)), .op [101, 92] (some (92, false)), .op [97, 102, 92] (some (92, false)), .op [103, 92] (some (92, false)), .op [92, 104] none] (by as_aux_lemma => kernel_rfl) ?_ ?_ ?_ ?_ ?_ ⟨stable_is _ _, stable_is _ _, stable_is _ _, stable_is _ _, stable_is _ _, stable_is _ _, stable_is _ _, stable_is _ _, stable_is _ _, stable_is _ _, stable_is _ _, stable_is _ _, stable_is _ _, stable_is _ _, stable_is _ _, stable_is _ _, stable_is _ _, stable_is _ _, stable_is _ _, stable_is _ _, stable_is _ _, stable_is _ _, stable_is _ _, stable_is _ _, stable_is _ _, stable_is _ _, stable_is _ _, stable_is _ _, stable_is _ _, stable_is _ _, stable_is _ _, stable_is _ _, stable_is _ _, stable_is _ _, stable_is _ _, stable_is _ _, stable_is _ _, stable_is _ _, stable_is _ _, stable_is _ _, stable_is _ _, stable_is _ _, stable_is _ _, stable_is _ _, stable_is _ _, stable_is _ _, stable_is _ _, stable_is _ _, stable_is _ _, stable_is _ _, stable_is _ _, stable_is _ _, stable_is _ _, stable_is _ _, stable_is _ _, stable_is _ _, stable_is _ _, stable_is _ _, stable_is _ _, stable_is _ _, stable_is _ _, stable_is _ _, stable_is _ _, stable_is _ _, stable_is _ _, stable_is _ _, stable_is _ _, stable_is _ _, stable_is _ _, stable_is _ _, stable_is _ _, stable_is _ _, stable_is _ _, stable_is _ _, stable_is _ _, stable_is _ _, stable_is _ _, stable_is _ _, stable_is _ _, stable_is _ _, stable_is _ _, stable_is _ _, stable_is _ _, stable_is _ _, stable_is _ _, stable_is _ _, stable_is _ _, stable_is _ _, stable_is _ _, stable_is _ _, stable_is _ _, stable_is _ _, stable_is _ _, stable_is _ _, stable_is _ _, stable_is _ _, stable_is _ _, stable_is _ _, stable_is _ _, stable_is _ _, trivial⟩ ?_ (S6S.below (vals := []) hH6 hp6 hp7 (Below.refl _ _).drew) ?_ ?_
            · as_aux_lemma => kernel_rfl
            · as_aux_lemma => kernel_rfl
            · as_aux_lemma => kernel_rfl
            · as_aux_lemma => kernel_rfl
            · as_aux_lemma => kernel_rfl
            · exact ⟨rfl, rfl, rfl, rfl, rfl, rfl, rfl, rfl, rfl, rfl, rfl, rfl, rfl, rfl, rfl, rfl, rfl, rfl, rfl, rfl, rfl, rfl, rfl, rfl, rfl, rfl, rfl, rfl, rfl, rfl, rfl, rfl, rfl, rfl, rfl, rfl, rfl, rfl, rfl, rfl, rfl, rfl, rfl, rfl, rfl, rfl, rfl, rfl, rfl, rfl, rfl, rfl, rfl, rfl, rfl, rfl, rfl, rfl, rfl, rfl, rfl, rfl, rfl, rfl, rfl, rfl, rfl, rfl, rfl, rfl, rfl, rfl, rfl, rfl, rfl, trivial⟩
            · refine ⟨?_, ?_, ?_, ?_, ?_, ?_, ?_, ?_, ?_, ?_, ?_, ?_, ?_, ?_, ?_, ?_, ?_, ?_, ?_, ?_, ?_, ?_, ?_, ?_, ?_, trivial⟩
              · as_aux_lemma =>
                  intro vals a W hS hL
                  have e9 : a.tmps.getD 9 undef = .slice (some a6) k c5 := hL.1
                  clear hL
                  go_simp
                  exact ⟨⟨fun d hd => by injection hd with hd; subst hd; rfl, fun h => by cases h⟩, hS, Below.refl _ _⟩
              · as_aux_lemma =>
                  intro vals a W hS hL
                  have e12 : a.tmps.getD 12 undef = .int .i64 ↑q := hL.1
                  clear hL
                  go_simp
                  exact ⟨⟨fun d hd => by injection hd with hd; subst hd; rfl, fun h => by cases h⟩, hS, Below.refl _ _⟩
              · as_aux_lemma =>
                  intro vals a W hS hL
                  have e81 : a.tmps.getD 81 undef = .slice (some a6) k c5 := hL.1
                  have e82 : a.tmps.getD 82 undef = .int .i64 q := hL.2.1
                  clear hL
                  go_simp
                  exact ⟨⟨fun d hd => by injection hd with hd; subst hd; rfl, fun h => by cases h⟩, hS, Below.refl _ _⟩
              · as_aux_lemma =>
                  intro vals a W hS hL
                  have e83 : a.tmps.getD 83 undef = .pointer (some (a6.add (q * 2))) := hL.1
                  clear hL
                  go_simp
                  exact ⟨⟨fun d hd => by injection hd with hd; subst hd; rfl, fun h => by cases h⟩, hS, Below.refl _ _⟩
              · as_aux_lemma =>
                  intro vals a W hS hL
                  have e84 : a.tmps.getD 84 undef = .pointer (some (a6.add (q * 2))) := hL.1
                  clear hL
                  have hS2 := hS
                  obtain ⟨_, f0, f1, g0, g1⟩ := hS2
                  go_simp
                  exact ⟨⟨fun d hd => by injection hd with hd; subst hd; rfl, fun h => by cases h⟩, hS, Below.refl _ _⟩
              · as_aux_lemma =>
                  intro vals a W hS hL
                  have e0 : a.tmps.getD 0 undef = .slice (some a7) k c := hL.1
                  clear hL
                  go_simp
                  exact ⟨⟨fun d hd => by injection hd with hd; subst hd; rfl, fun h => by cases h⟩, hS, Below.refl _ _⟩
              · as_aux_lemma =>
                  intro vals a W hS hL
                  have e12 : a.tmps.getD 12 undef = .int .i64 ↑q := hL.1
                  clear hL
                  go_simp
                  exact ⟨⟨fun d hd => by injection hd with hd; subst hd; rfl, fun h => by cases h⟩, hS, Below.refl _ _⟩
              · as_aux_lemma =>
                  intro vals a W hS hL
                  have e86 : a.tmps.getD 86 undef = .slice (some a7) k c := hL.1
                  have e87 : a.tmps.getD 87 undef = .int .i64 q := hL.2.1
                  clear hL
                  go_simp
                  exact ⟨⟨fun d hd => by injection hd with hd; subst hd; rfl, fun h => by cases h⟩, hS, Below.refl _ _⟩
              · as_aux_lemma =>
                  intro vals a W hS hL
                  have e88 : a.tmps.getD 88 undef = .pointer (some (a7.add (q * 2))) := hL.1
                  clear hL
                  go_simp
                  exact ⟨⟨fun d hd => by injection hd with hd; subst hd; rfl, fun h => by cases h⟩, hS, Below.refl _ _⟩
              · as_aux_lemma =>
                  intro vals a W hS hL
                  have e89 : a.tmps.getD 89 undef = .pointer (some (a7.add (q * 2))) := hL.1
                  clear hL
                  have hS2 := hS
                  obtain ⟨_, f0, f1, g0, g1⟩ := hS2
                  go_simp
                  exact ⟨⟨fun d hd => by injection hd with hd; subst hd; rfl, fun h => by cases h⟩, hS, Below.refl _ _⟩
              · as_aux_lemma =>
                  intro vals a W hS hL
                  have e85 : a.tmps.getD 85 undef = .int .i64 kind := hL.1
                  have e90 : a.tmps.getD 90 undef = .int .i64 kind := hL.2.1
                  clear hL
                  go_simp
                  exact ⟨⟨fun d hd => by injection hd with hd; subst hd; rfl, fun h => by cases h⟩, hS, Below.refl _ _⟩
              · as_aux_lemma =>
                  intro vals a W hS hL
                  have e91 : a.tmps.getD 91 undef = .bool false := hL.1
                  clear hL
                  go_simp
                  exact ⟨⟨fun d hd => by injection hd with hd; subst hd; rfl, fun h => by cases h⟩, hS, Below.refl _ _⟩
              · as_aux_lemma =>
                  intro vals a W hS hL
                  have e9 : a.tmps.getD 9 undef = .slice (some a6) k c5 := hL.1
                  have e92 : a.tmps.getD 92 undef = .bool false := hL.2.1
                  clear hL
                  refine ⟨false, e92, ?_⟩
                  rw [if_pos rfl]
                  go_simp
                  exact ⟨⟨fun d hd => by injection hd with hd; subst hd; rfl, fun h => by cases h⟩, hS, Below.refl _ _⟩
              · as_aux_lemma =>
                  intro vals a W hS hL
                  have e12 : a.tmps.getD 12 undef = .int .i64 ↑q := hL.1
                  have e92 : a.tmps.getD 92 undef = .bool false := hL.2.1
                  clear hL
                  refine ⟨false, e92, ?_⟩
                  rw [if_pos rfl]
                  go_simp
                  exact ⟨⟨fun d hd => by injection hd with hd; subst hd; rfl, fun h => by cases h⟩, hS, Below.refl _ _⟩
              · as_aux_lemma =>
                  intro vals a W hS hL
                  have e93 : a.tmps.getD 93 undef = .slice (some a6) k c5 := hL.1
                  have e94 : a.tmps.getD 94 undef = .int .i64 q := hL.2.1
                  have e92 : a.tmps.getD 92 undef = .bool false := hL.2.2.1
                  clear hL
                  refine ⟨false, e92, ?_⟩
                  rw [if_pos rfl]
                  go_simp
                  exact ⟨⟨fun d hd => by injection hd with hd; subst hd; rfl, fun h => by cases h⟩, hS, Below.refl _ _⟩
              · as_aux_lemma =>
                  intro vals a W hS hL
                  have e95 : a.tmps.getD 95 undef = .pointer (some (a6.add (q * 2))) := hL.1
                  have e92 : a.tmps.getD 92 undef = .bool false := hL.2.1
                  clear hL
                  refine ⟨false, e92, ?_⟩
                  rw [if_pos rfl]
                  go_simp
                  exact ⟨⟨fun d hd => by injection hd with hd; subst hd; rfl, fun h => by cases h⟩, hS, Below.refl _ _⟩
              · as_aux_lemma =>
                  intro vals a W hS hL
                  have e96 : a.tmps.getD 96 undef = .pointer (some ⟨(a6.add (q * 2)).block, (a6.add (q * 2)).off + 1, none⟩) := hL.1
                  have e92 : a.tmps.getD 92 undef = .bool false := hL.2.1
                  clear hL
                  refine ⟨false, e92, ?_⟩
                  rw [if_pos rfl]
                  have hS2 := hS
                  obtain ⟨_, f0, f1, g0, g1⟩ := hS2
                  go_simp
                  exact ⟨⟨fun d hd => by injection hd with hd; subst hd; rfl, fun h => by cases h⟩, hS, Below.refl _ _⟩
              · as_aux_lemma =>
                  intro vals a W hS hL
                  have e0 : a.tmps.getD 0 undef = .slice (some a7) k c := hL.1
                  have e92 : a.tmps.getD 92 undef = .bool false := hL.2.1
                  clear hL
                  refine ⟨false, e92, ?_⟩
                  rw [if_pos rfl]
                  go_simp
                  exact ⟨⟨fun d hd => by injection hd with hd; subst hd; rfl, fun h => by cases h⟩, hS, Below.refl _ _⟩
              · as_aux_lemma =>
                  intro vals a W hS hL
                  have e12 : a.tmps.getD 12 undef = .int .i64 ↑q := hL.1
                  have e92 : a.tmps.getD 92 undef = .bool false := hL.2.1
                  clear hL
                  refine ⟨false, e92, ?_⟩
                  rw [if_pos rfl]
                  go_simp
                  exact ⟨⟨fun d hd => by injection hd with hd; subst hd; rfl, fun h => by cases h⟩, hS, Below.refl _ _⟩
              · as_aux_lemma =>
                  intro vals a W hS hL
                  have e98 : a.tmps.getD 98 undef = .slice (some a7) k c := hL.1
                  have e99 : a.tmps.getD 99 undef = .int .i64 q := hL.2.1
                  have e92 : a.tmps.getD 92 undef = .bool false := hL.2.2.1
                  clear hL
                  refine ⟨false, e92, ?_⟩
                  rw [if_pos rfl]
                  go_simp
                  exact ⟨⟨fun d hd => by injection hd with hd; subst hd; rfl, fun h => by cases h⟩, hS, Below.refl _ _⟩
              · as_aux_lemma =>
                  intro vals a W hS hL
                  have e100 : a.tmps.getD 100 undef = .pointer (some (a7.add (q * 2))) := hL.1
                  have e92 : a.tmps.getD 92 undef = .bool false := hL.2.1
                  clear hL
                  refine ⟨false, e92, ?_⟩
                  rw [if_pos rfl]
                  go_simp
                  exact ⟨⟨fun d hd => by injection hd with hd; subst hd; rfl, fun h => by cases h⟩, hS, Below.refl _ _⟩
              · as_aux_lemma =>
                  intro vals a W hS hL
                  have e101 : a.tmps.getD 101 undef = .pointer (some ⟨(a7.add (q * 2)).block, (a7.add (q * 2)).off + 1, none⟩) := hL.1
                  have e92 : a.tmps.getD 92 undef = .bool false := hL.2.1
                  clear hL
                  refine ⟨false, e92, ?_⟩
                  rw [if_pos rfl]
                  have hS2 := hS
                  obtain ⟨_, f0, f1, g0, g1⟩ := hS2
                  go_simp
                  exact ⟨⟨fun d hd => by injection hd with hd; subst hd; rfl, fun h => by cases h⟩, hS, Below.refl _ _⟩
              · as_aux_lemma =>
                  intro vals a W hS hL
                  have e97 : a.tmps.getD 97 undef = .slice A6 R.length c6 := hL.1
                  have e102 : a.tmps.getD 102 undef = .slice A7 R.length c7 := hL.2.1
                  have e92 : a.tmps.getD 92 undef = .bool false := hL.2.2.1
                  clear hL
                  refine ⟨false, e92, ?_⟩
                  rw [if_pos rfl]
                  go_simp
                  have hs1 := hS.1.size
                  refine (sameAll_any (hr6.below hS.1 sq6) (hr7.below hS.1 sq6) (Nat.le_trans sq6 hs1) (by omega) hali).mono ?_
                  rintro e W' ⟨rfl, hb⟩
                  exact ⟨_, rfl, ⟨fun d hd => by injection hd with hd; subst hd; rfl, fun h => by cases h⟩, S6S.below hS hp6 hp7 hb, hb.mono hs1⟩
              · as_aux_lemma =>
                  intro vals a W hS hL
                  have e103 : a.tmps.getD 103 undef = .bool true := hL.1
                  have e92 : a.tmps.getD 92 undef = .bool false := hL.2.1
                  clear hL
                  refine ⟨false, e92, ?_⟩
                  rw [if_pos rfl]
                  go_simp
                  exact ⟨⟨fun d hd => by injection hd with hd; subst hd; rfl, fun h => by cases h⟩, hS, Below.refl _ _⟩
              · as_aux_lemma =>
                  intro vals a W hS hL
                  have e92 : a.tmps.getD 92 undef = .bool false := hL.1
                  have e104 : a.tmps.getD 104 undef = .bool false := hL.2.1
                  clear hL
                  go_simp
                  exact ⟨⟨fun d hd => by injection hd with hd; subst hd; rfl, fun h => by cases h⟩, hS, Below.refl _ _⟩
            · intro x W vals hd hsz hT _ _ _ hS
              have hb57 : Below w5.heap.size w5 W := hbq.trans (hS.1.mono sq)
              have f0 : x.tmps.getD 0 undef = .slice (some a7) k c := hT 0 (by simp)
              have f1 : x.tmps.getD 1 undef = undef := hT 1 (by simp)
              have f2 : x.tmps.getD 2 undef = u2 := hT 2 (by simp)
              have f3 : x.tmps.getD 3 undef = .slice As k cs := hT 3 (by simp)
              have f4 : x.tmps.getD 4 undef = .int .i64 ↑k := hT 4 (by simp)
              have f5 : x.tmps.getD 5 undef = .slice A3 (joinM L).fst.length c3 := hT 5 (by simp)
              have f6 : x.tmps.getD 6 undef = .int .i64 (joinM L).snd := hT 6 (by simp)
              have f7 : x.tmps.getD 7 undef = .slice A4 (joinM L).fst.length c4 := hT 7 (by simp)
              have f8 : x.tmps.getD 8 undef = .int .i64 (joinM L).snd := hT 8 (by simp)
              have f9 : x.tmps.getD 9 undef = .slice (some a6) k c5 := hT 9 (by simp)
              have f10 : x.tmps.getD 10 undef = .int .i64 0 := hT 10 (by simp)
              have f11 : x.tmps.getD 11 undef = .int .i64 0 := hT 11 (by simp)
              have f12 : x.tmps.getD 12 undef = .int .i64 ↑q := hT 12 (by simp)
              have f13 : x.tmps.getD 13 undef = .bool true := hT 13 (by simp)
              have f14 : x.tmps.getD 14 undef = .bool false := hT 14 (by simp)
              have f15 : x.tmps.getD 15 undef = .slice (some a7) k c := hT 15 (by simp)
              have f16 : x.tmps.getD 16 undef = .int .i64 ↑k := hT 16 (by simp)
              have f17 : x.tmps.getD 17 undef = .bool (decide ((12 : Int) < (k : Int))) := hT 17 (by simp)
              have f18 : x.tmps.getD 18 undef = .int .i64 ↑k := hT 18 (by simp)
              have f19 : x.tmps.getD 19 undef = .slice (some a7) k c := hT 19 (by simp)
              have f20 : x.tmps.getD 20 undef = .int .i64 ↑k := hT 20 (by simp)
              have f21 : x.tmps.getD 21 undef = .bool false := hT 21 (by simp)
              have f22 : x.tmps.getD 22 undef = u22 := hT 22 (by simp)
              have f23 : x.tmps.getD 23 undef = u23 := hT 23 (by simp)
              have f24 : x.tmps.getD 24 undef = u24 := hT 24 (by simp)
              have f25 : x.tmps.getD 25 undef = u25 := hT 25 (by simp)
              have f26 : x.tmps.getD 26 undef = u26 := hT 26 (by simp)
              have f27 : x.tmps.getD 27 undef = u27 := hT 27 (by simp)
              have f28 : x.tmps.getD 28 undef = u28 := hT 28 (by simp)
              have f29 : x.tmps.getD 29 undef = u29 := hT 29 (by simp)
              have f30 : x.tmps.getD 30 undef = u30 := hT 30 (by simp)
              have f31 : x.tmps.getD 31 undef = u31 := hT 31 (by simp)
              have f32 : x.tmps.getD 32 undef = u32 := hT 32 (by simp)
              have f33 : x.tmps.getD 33 undef = u33 := hT 33 (by simp)
              have f34 : x.tmps.getD 34 undef = u34 := hT 34 (by simp)
              have f35 : x.tmps.getD 35 undef = u35 := hT 35 (by simp)
              have f36 : x.tmps.getD 36 undef = u36 := hT 36 (by simp)
              have f37 : x.tmps.getD 37 undef = u37 := hT 37 (by simp)
              have f38 : x.tmps.getD 38 undef = u38 := hT 38 (by simp)
              have f39 : x.tmps.getD 39 undef = .tuple #[.slice A3 (joinM L).fst.length c3, .int .i64 (joinM L).snd] := hT 39 (by simp)
              have f40 : x.tmps.getD 40 undef = .slice As k cs := hT 40 (by simp)
              have f41 : x.tmps.getD 41 undef = .tuple #[.slice A3 (joinM L).fst.length c3, .int .i64 (joinM L).snd] := hT 41 (by simp)
              have f42 : x.tmps.getD 42 undef = .slice A3 (joinM L).fst.length c3 := hT 42 (by simp)
              have f43 : x.tmps.getD 43 undef = .int .i64 (joinM L).snd := hT 43 (by simp)
              have f44 : x.tmps.getD 44 undef = .tuple #[.slice A4 (joinM L).fst.length c4, .int .i64 (joinM L).snd] := hT 44 (by simp)
              have f45 : x.tmps.getD 45 undef = .slice (some a7) k c := hT 45 (by simp)
              have f46 : x.tmps.getD 46 undef = .tuple #[.slice A4 (joinM L).fst.length c4, .int .i64 (joinM L).snd] := hT 46 (by simp)
              have f47 : x.tmps.getD 47 undef = .slice A4 (joinM L).fst.length c4 := hT 47 (by simp)
              have f48 : x.tmps.getD 48 undef = .int .i64 (joinM L).snd := hT 48 (by simp)
              have f49 : x.tmps.getD 49 undef = .int .i64 (joinM L).snd := hT 49 (by simp)
              have f50 : x.tmps.getD 50 undef = .int .i64 (joinM L).snd := hT 50 (by simp)
              have f51 : x.tmps.getD 51 undef = .bool false := hT 51 (by simp)
              have f52 : x.tmps.getD 52 undef = .bool false := hT 52 (by simp)
              have f53 : x.tmps.getD 53 undef = .slice A3 (joinM L).fst.length c3 := hT 53 (by simp)
              have f54 : x.tmps.getD 54 undef = .slice A4 (joinM L).fst.length c4 := hT 54 (by simp)
              have f55 : x.tmps.getD 55 undef = .bool true := hT 55 (by simp)
              have f56 : x.tmps.getD 56 undef = .bool false := hT 56 (by simp)
              have f57 : x.tmps.getD 57 undef = .bool false := hT 57 (by simp)
              have f58 : x.tmps.getD 58 undef = .int .i64 (joinM L).snd := hT 58 (by simp)
              have f59 : x.tmps.getD 59 undef = .bool false := hT 59 (by simp)
              have f60 : x.tmps.getD 60 undef = .tuple #[.slice (some a6) k c5, .int .i64 0, .int .i64 0] := hT 60 (by simp)
              have f61 : x.tmps.getD 61 undef = .slice A3 (joinM L).fst.length c3 := hT 61 (by simp)
              have f62 : x.tmps.getD 62 undef = .tuple #[.slice (some a6) k c5, .int .i64 0, .int .i64 0] := hT 62 (by simp)
              have f63 : x.tmps.getD 63 undef = .slice (some a6) k c5 := hT 63 (by simp)
              have f64 : x.tmps.getD 64 undef = .int .i64 0 := hT 64 (by simp)
              have f65 : x.tmps.getD 65 undef = .int .i64 0 := hT 65 (by simp)
              have f66 : x.tmps.getD 66 undef = .int .i64 0 := hT 66 (by simp)
              have f67 : x.tmps.getD 67 undef = .bool false := hT 67 (by simp)
              have f68 : x.tmps.getD 68 undef = .bool false := hT 68 (by simp)
              have f69 : x.tmps.getD 69 undef = .slice (some a6) k c5 := hT 69 (by simp)
              have f70 : x.tmps.getD 70 undef = .int .i64 ↑k := hT 70 (by simp)
              have f71 : x.tmps.getD 71 undef = .slice (some a7) k c := hT 71 (by simp)
              have f72 : x.tmps.getD 72 undef = .int .i64 ↑k := hT 72 (by simp)
              have f73 : x.tmps.getD 73 undef = .bool false := hT 73 (by simp)
              have f74 : x.tmps.getD 74 undef = .bool false := hT 74 (by simp)
              have f105 : x.tmps.getD 105 undef = .bool false := hT 105 (by simp)
              clear hT hS hH6
              rw [act_lit 106 x hd hsz]
              simp only [List.range, List.range.loop, List.map, f0, f1, f2, f3, f4, f5, f6, f7, f8, f9, f10, f11, f12, f13, f14, f15, f16, f17, f18, f19, f20, f21, f22, f23, f24, f25, f26, f27, f28, f29, f30, f31, f32, f33, f34, f35, f36, f37, f38, f39, f40, f41, f42, f43, f44, f45, f46, f47, f48, f49, f50, f51, f52, f53, f54, f55, f56, f57, f58, f59, f60, f61, f62, f63, f64, f65, f66, f67, f68, f69, f70, f71, f72, f73, f74, f105]
              clear f0 f1 f2 f3 f4 f5 f6 f7 f8 f9 f10 f11 f12 f13 f14 f15 f16 f17 f18 f19 f20 f21 f22 f23 f24 f25 f26 f27 f28 f29 f30 f31 f32 f33 f34 f35 f36 f37 f38 f39 f40 f41 f42 f43 f44 f45 f46 f47 f48 f49 f50 f51 f52 f53 f54 f55 f56 f57 f58 f59 f60 f61 f62 f63 f64 f65 f66 f67 f68 f69 f70 f71 f72 f73 f74 f105
              go_wp2
              go_roundw
              case rel => exact ⟨q + 1, by omega, by go_num, hb57⟩
              case measure => simp [intOf]; omega
          · have hqk' : ¬ (q : Int) < (k : Int) := by omega
            go_wp2
            go_ret
            exact ⟨rfl, b05.trans (hbq.mono s05)⟩
      · have hb0 : ((joinM L).2 != 0) = true := by simp [her]
        go_wp2
        go_ret
        exact ⟨rfl, b04⟩
end Go.Proofs.Ytifcdleibjnknaa
