/- cashbooklaw1.RecJoins: for whatever two rows of records it returns true. Conditions: the rows read as lists; KnownSaid. -/
import Derived.Test.YtpjimppfgmemeaaSameAll
import Derived.Test.YtpjimppfgmemeaaKnown
namespace Go.Proofs.Ytpjimppfgmemeaa
open Go.RowKit

theorem RecsRd.mem {w : World} {B n : Nat} {A : Option Addr} {L : List RecM} (h : RecsRd w B A n L) : ∀ r ∈ L, Fit r.type ∧ r.data.length ≤ 1000000000000000000 ∧ r.cuts.length ≤ 1000000000000000000 := by
  intro r hr
  obtain ⟨i, hi, rfl⟩ := List.getElem_of_mem hr
  obtain ⟨a, _, _, hall⟩ := h.at_ (by have := h.len; omega)
  obtain ⟨D, dc, C, cc, hh⟩ := hall i L[i] (List.getElem?_eq_getElem hi)
  exact ⟨hh.rd.fit, hh.rd.dcap.2, hh.rd.ccap.2⟩

theorem RecsRd.cut {w : World} {B n i j cap : Nat} {A : Option Addr} {L : List RecM} (h : RecsRd w B A n L) (hij : i ≤ j) (hj : j ≤ n) (hc : n ≤ cap) :
    RecsRd w B (if cap = i then A else A.map (·.add (i * 4))) (j - i) ((L.drop i).take (j - i)) := by
  have hl := h.len
  refine ⟨by rw [List.length_take, List.length_drop]; omega, fun hn => ?_⟩
  obtain ⟨a, rfl, hab, hall⟩ := h.at_ (by omega)
  rw [if_neg (by omega)]
  refine ⟨a.add (i * 4), rfl, by rw [add_block]; exact hab, fun m r hr => ?_⟩
  rw [List.getElem?_take] at hr
  split at hr
  · rw [List.getElem?_drop] at hr
    rw [add_add, ← Nat.add_mul]
    exact hall _ _ hr
  · cases hr

theorem RecsRd.mono {w : World} {B B' n : Nat} {A : Option Addr} {L : List RecM} (h : RecsRd w B A n L) (hB : B ≤ B') : RecsRd w B' A n L := by
  refine ⟨h.len, fun hn => ?_⟩
  obtain ⟨a, ha, hl, hr⟩ := h.at_ hn
  refine ⟨a, ha, by omega, fun i r hi => ?_⟩
  obtain ⟨D, dc, C, cc, hh⟩ := hr i r hi
  exact ⟨D, dc, C, cc, hh.rd.mono hB, by have := hh.low; omega, hh.c0, hh.c1, hh.c2, hh.c3⟩

theorem RecsRd.front {w : World} {B n j : Nat} {A : Option Addr} {L : List RecM} (h : RecsRd w B A n L) (hj : j ≤ n) : RecsRd w B A j (L.take j) := by
  refine ⟨by rw [List.length_take, h.len]; omega, fun hn => ?_⟩
  obtain ⟨a, ha, hl, hr⟩ := h.at_ (by omega)
  refine ⟨a, ha, hl, fun i r hi => ?_⟩
  rw [List.getElem?_take] at hi
  split at hi
  · exact hr i r hi
  · cases hi

theorem writeM_len : ∀ (L : List RecM), (writeM L).2 = 0 → (writeM L).1.length ≤ 400000 * L.length
  | [], _ => by simp [writeM]
  | r :: L, h => by
    have hc : checkM r = 0 := by
      unfold writeM at h
      split at h
      · assumption
      · rename_i hc; exact absurd h hc
    have h2 : (writeM L).2 = 0 := by
      unfold writeM at h
      rw [if_pos hc] at h
      split at h
      · assumption
      · rename_i h2; exact absurd h h2
    have hl := putM_len (checkM_good hc)
    have ih := writeM_len L h2
    unfold writeM
    rw [if_pos hc, if_pos h2]
    simp only [List.length_append, List.length_cons]
    omega

/-- Two rows written, one behind the other, are read as both. -/
theorem joins_read (L L' : List RecM) (h : (writeM L).2 = 0) (h' : (writeM L').2 = 0) : ∃ M M' : List RecM, readAll ((writeM L).1 ++ (writeM L').1) = (M ++ M', 0, 0) ∧ M.length = L.length ∧ M'.length = L'.length ∧
    (∀ (i : Nat) r s, M[i]? = some r → L[i]? = some s → alikeM r s) ∧ (∀ (i : Nat) r s, M'[i]? = some r → L'[i]? = some s → alikeM r s) ∧ ∀ r ∈ M', ((writeM L).1.length : Int) ≤ r.at_ := by
  obtain ⟨M, e1, l1, a1⟩ := on_all L [] 0 (writeM L').1 h
  obtain ⟨M', e2, l2, a2⟩ := on_all L' ([] ++ M) (0 + (writeM L).1.length) [] h'
  refine ⟨M, M', ?_, l1, l2, ?_, ?_, ?_⟩
  · show onM [] 0 _ = _
    rw [e1]
    rw [List.append_nil] at e2
    rw [e2, on_nil, List.nil_append]
  · intro i r s hr hs
    obtain ⟨p, hp, _⟩ := a1 i s hs
    rw [hr] at hp
    injection hp with hp
    subst hp
    exact ⟨rfl, rfl, rfl⟩
  · intro i r s hr hs
    obtain ⟨p, hp, _⟩ := a2 i s hs
    rw [hr] at hp
    injection hp with hp
    subst hp
    exact ⟨rfl, rfl, rfl⟩
  · intro r hr
    obtain ⟨i, hi, rfl⟩ := List.getElem_of_mem hr
    obtain ⟨p, hp, hle⟩ := a2 i L'[i] (List.getElem?_eq_getElem (by omega))
    rw [List.getElem?_eq_getElem hi] at hp
    injection hp with hp
    rw [hp]
    simpa using hle

set_option maxHeartbeats 4000000 in
theorem recJoins_any {w : World} {B n c n' c' : Nat} {A A' : Option Addr} {L L' : List RecM} (h : RecsRd w B A n L) (h' : RecsRd w B A' n' L') (hB : B ≤ w.heap.size) (hL : ∀ r ∈ L, Wide r) (hL' : ∀ r ∈ L', Wide r)
    (hn : n ≤ 1000000000000000000) (hn' : n' ≤ 1000000000000000000) :
    Calls Try.prog 6 #[.slice A n c, .slice A' n' c'] w fun e w' => e = .returned (.bool true) ∧ Below w.heap.size w w' := by
  go_enter Try.func6, Try.ntmps6
  go_wp2_with fail
  refine (known_any _).mono ?_
  rintro e w1 ⟨rfl, hb1⟩
  by_cases h10 : (10 : Int) < n
  · go_wp2_with fail
    go_ret
    exact ⟨rfl, hb1⟩
  by_cases h10' : (10 : Int) < n'
  · go_wp2_with fail
    go_ret
    exact ⟨rfl, hb1⟩
  have hnl := h.len
  have hnl' := h'.len
  have f1 := h.mem
  have f1' := h'.mem
  have g1 := h.below hb1 hB
  have g1' := h'.below hb1 hB
  have s1 := hb1.size
  go_wp2_with fail
  refine (toAll_any g1 (by omega) (by omega) hL).mono ?_
  rintro e w2 ⟨v2, S, rfl, ho, hm, hb2⟩
  have hSl : S.length = n := by rw [← hnl, ← hm, List.length_map]
  obtain ⟨A2, c2, rfl, _, hrd⟩ := ho.readL (fun x hx => f1 x.r (by rw [← hm]; exact List.mem_map_of_mem hx))
  rw [hm] at hrd
  rw [hSl] at hrd ⊢
  clear ho hm
  have g2' := g1'.below hb2 (by omega)
  have s2 := hb2.size
  go_wp2_with fail
  refine (write_any hrd (Nat.le_refl _) (by omega)).mono ?_
  rintro e w3 ⟨vx, rfl, ox, hb3⟩
  have g3' := g2'.below hb3 (by omega)
  have s3 := hb3.size
  clear hrd
  go_wp2_with fail
  refine (toAll_any g3' (by omega) (by omega) hL').mono ?_
  rintro e w4 ⟨v4, S', rfl, ho, hm, hb4⟩
  have hSl' : S'.length = n' := by rw [← hnl', ← hm, List.length_map]
  obtain ⟨A4, c4, rfl, _, hrd⟩ := ho.readL (fun x hx => f1' x.r (by rw [← hm]; exact List.mem_map_of_mem hx))
  rw [hm] at hrd
  rw [hSl'] at hrd ⊢
  clear ho hm
  have s4 := hb4.size
  go_wp2_with fail
  refine (write_any hrd (Nat.le_refl _) (by omega)).mono ?_
  rintro e w5 ⟨vy, rfl, oy, hb5⟩
  have s5 := hb5.size
  clear hrd
  obtain ⟨X, cx, rfl, hcx, _, rx⟩ := own_form ox
  obtain ⟨Y, cy, rfl, hcy, _, ry⟩ := own_form oy
  have rx5 := (rx.below hb4).below (hb5.mono (by omega))
  have hb05 : Below w.heap.size w w5 := (((hb1.trans (hb2.mono s1)).trans (hb3.mono (by omega))).trans (hb4.mono (by omega))).trans (hb5.mono (by omega))
  have q5 := (h.below hb05 (by omega))
  have q5' := (h'.below hb05 (by omega))
  clear g1 g1' g2' g3' ox oy rx hb1 hb2 hb3 hb4 hb5
  by_cases he : (writeM L).2 = 0
  · by_cases hf : (writeM L').2 = 0
    · have lx := writeM_len L he
      have ly := writeM_len L' hf
      obtain ⟨M, M', hr, lm, lm', al, al', hat⟩ := joins_read L L' he hf
      have HR := Lib.hid hr
      clear hr
      have HE := Lib.hid he
      have HF := Lib.hid hf
      generalize (writeM L).1 = xb at *
      generalize (writeM L').1 = yb at *
      rw [he, hf]
      clear he hf
      go_wp2_with (at_builtin; refine wpList_app bytesRow rfl (.tmp 42) (.tmp 43) rfl rfl rfl (made5 w5 (Nat.le_refl _) 5) (rx5.belowMono ((Below.refl w5.heap.size w5).alloc (Nat.le_refl _) _) (by omega)) (bv_one _) ?_ ?_ ?_ ?_)
      · unfold maxLen; omega
      · omega
      · simp
      intro v6 w6 o6 _ b6
      obtain ⟨V6, k6, rfl, _, _, _⟩ := own_form o6
      have s6 := b6.size
      rw [World.size_alloc] at s6
      have b56 : Below w5.heap.size w5 w6 := ((Below.refl w5.heap.size w5).alloc (Nat.le_refl _) _).trans b6
      go_wp2_with (at_builtin; refine wpList_app bytesRow rfl (.tmp 44) (.tmp 45) rfl rfl rfl o6 (ry.below b56) (bv_one _) ?_ ?_ ?_ ?_)
      · unfold maxLen; omega
      · omega
      · omega
      intro v7 w7 o7 _ b7
      rw [← List.map_append] at o7
      obtain ⟨V7, k7, rfl, hk7, _, r7⟩ := own_form o7
      have s7 := b7.size
      have b57 := b56.trans b7
      clear o6 o7 b6 b7
      go_wp2_with fail
      refine (read_any r7 hk7 (by omega) (Nat.le_refl _)).mono ?_
      rintro e w8 ⟨v8, S8, rfl, o8, hm8, hf8, b8⟩
      rw [HR.out] at hm8 ⊢
      have hS8 : S8.length = n + n' := by have := congrArg List.length hm8; rw [List.length_map, List.length_append] at this; omega
      obtain ⟨A8, c8, rfl, hc8, r8⟩ := o8.readL (fun x hx => by
        obtain ⟨z0, z1, z2⟩ := hf8 x hx
        exact ⟨z0, by omega, by omega⟩)
      rw [hm8] at r8
      rw [hS8] at r8 hc8 ⊢
      have b08 : Below w.heap.size w w8 := (hb05.trans (b57.mono (by omega))).trans (b8.mono (by omega))
      have q8 := h.below b08 hB
      have q8' := h'.below b08 hB
      clear o8 hm8 hf8 b8 q5 q5' b57 b56 r7 rx5 ry hb05 HR HE HF
      go_wp2_with fail
      have hml : (M ++ M').length = n + n' := by rw [List.length_append]; omega
      go_loopw [12] (fun i wr => ∃ k : Nat, i = .int .i64 k ∧ n ≤ k ∧ k ≤ n + n' ∧ wr = w8) (fun i _ => n + n' - (intOf i).toNat)
      case atStart => exact ⟨n, rfl, Nat.le_refl _, by omega, rfl⟩
      case round =>
        obtain ⟨k, rfl, hk1, hk2, rfl⟩ := hrel
        by_cases hkn : k < n + n'
        · obtain ⟨a, rfl, hab, hall⟩ := r8.at_ (by omega)
          obtain ⟨D, dc, C, cc, hr⟩ := hall k (M ++ M')[k] (List.getElem?_eq_getElem (by omega))
          have hin : (M ++ M')[k] ∈ M' := by rw [List.getElem_append_right (by omega)]; exact List.getElem_mem _
          have hge := hat _ hin
          clear hall hin
          generalize (M ++ M')[k] = r at hr hge
          have c3 := hr.c3
          have hlt : ¬ r.at_ < (xb.length : Int) := by omega
          have hkn1 : (k : Int) < (n : Int) + (n' : Int) := by omega
          clear hr al al' hat q8 q8' r8 hL hL' h h'
          go_wp2
          go_roundw
          case rel => exact ⟨k + 1, by go_num, by omega, by omega, by first | rfl | trivial⟩
          case measure => simp [intOf]; omega
        · have hkk : k = n + n' := by omega
          subst hkk
          clear hat
          have hc1 : n ≤ c8 := by omega
          have rf : RecsRd wr wr.heap.size A8 n M := by
            have := r8.front (j := n) (by omega)
            rwa [List.take_left' (by omega)] at this
          have rb := r8.cut (i := n) (j := n + n') (by omega) (Nat.le_refl _) hc8
          rw [Nat.add_sub_cancel_left, List.drop_left' (by omega), List.take_of_length_le (by omega)] at rb
          have hs8 := b08.size
          have m8 := q8.mono (B' := wr.heap.size) (by omega)
          have m8' := q8'.mono (B' := wr.heap.size) (by omega)
          clear r8 q8 q8' h h'
          go_wp2_with fail
          refine (sameAll_any rf m8 (Nat.le_refl _) (by omega) al).mono ?_
          rintro e w9 ⟨rfl, b9⟩
          have s9 := b9.size
          have rb9 := rb.below b9 (Nat.le_refl _)
          have m9' := m8'.below b9 (Nat.le_refl _)
          clear rf m8 rb m8'
          have hn0 : 0 ≤ (n : Int) := by omega
          have hc2 : (n : Int) ≤ (n : Int) + (n' : Int) := by omega
          have hc3 : n + n' ≤ c8 := hc8
          by_cases hcn : c8 = n
          · rw [if_pos hcn] at rb9
            go_wp2_with fail
            refine (sameAll_any rb9 m9' s9 (by omega) al').mono ?_
            rintro e w10 ⟨rfl, b10⟩
            have hbend : Below w.heap.size w w10 := (b08.trans (b9.mono hs8)).trans (b10.mono (by omega))
            clear rb9 m9'
            go_wp2
            go_ret
            exact ⟨rfl, hbend⟩
          · rw [if_neg hcn] at rb9
            go_wp2_with fail
            refine (sameAll_any rb9 m9' s9 (by omega) al').mono ?_
            rintro e w10 ⟨rfl, b10⟩
            have hbend : Below w.heap.size w w10 := (b08.trans (b9.mono hs8)).trans (b10.mono (by omega))
            clear rb9 m9'
            go_wp2
            go_ret
            exact ⟨rfl, hbend⟩
    · have hb : ((writeM L').2 != 0) = true := by simpa using hf
      go_wp2_with fail
      go_ret
      exact ⟨rfl, hb05⟩
  · have hb : ((writeM L).2 != 0) = true := by simpa using he
    go_wp2_with fail
    go_ret
    exact ⟨rfl, hb05⟩
end Go.Proofs.Ytpjimppfgmemeaa
