/- cashbooklaw2.SubSplits: for whatever records it returns true. Conditions: the records read as such; known's contract. -/
import Derived.Test.YtifcdleibjnknaaKnown2
import Derived.Test.YtifcdleibjnknaaSplitB
import Derived.Test.YtifcdleibjnknaaJoinB
import Derived.Test.YtifcdleibjnknaaSameStreams
import Derived.Test.YtifcdleibjnknaaSubLists
import Derived.Test.YtifcdleibjnknaaShort
namespace Go.Proofs.Ytifcdleibjnknaa
open Go.RowKit

theorem alike_of_key {J L : List RecM} (h : J.map key3 = L.map key3) : ∀ (i : Nat) r s, J[i]? = some r → L[i]? = some s → alikeM r s := by
  intro i r s hr hs
  have h1 : (J.map key3)[i]? = some (key3 r) := by rw [List.getElem?_map, hr]; rfl
  have h2 : (L.map key3)[i]? = some (key3 s) := by rw [List.getElem?_map, hs]; rfl
  rw [h, h2] at h1
  have := Option.some.inj h1
  simp only [key3, Prod.mk.injEq] at this
  exact ⟨this.1.symm, this.2.1.symm, this.2.2.symm⟩

theorem short_len {L : List RecM} (h : shortB L = true) : L.length ≤ 60 := by
  simp only [shortB, Bool.and_eq_true, decide_eq_true_eq] at h
  exact h.1

set_option maxHeartbeats 4000000 in
theorem subSplits_any {w : World} {B n c : Nat} {A : Option Addr} {L : List RecM} (h : RecsRd w B A n L) (hB : B ≤ w.heap.size) (hL : ∀ r ∈ L, Wide r) :
    Calls Try.prog 3 #[.slice A n c] w fun e w' => e = .returned (.bool true) ∧ Below w.heap.size w w' := by
  have hnl := h.len
  have f1 := h.mem
  go_enter Try.func3, Try.ntmps3
  go_wp2_with fail
  refine (known2_any _).mono ?_
  rintro e w1 ⟨rfl, hb1⟩
  have s1 := hb1.size
  have g1 := h.below hb1 hB
  go_wp2_with fail
  refine (short_any g1).mono ?_
  rintro e w1' ⟨rfl, rfl⟩
  by_cases hsh : shortB L = true
  · have h60 := short_len hsh
    rw [hsh]
    clear hsh
    go_wp2_with fail
    refine (toAll_any g1 (by omega) (by omega) hL).mono ?_
    rintro e w2 ⟨v2, S, rfl, ho, hm, hb2⟩
    have hSl : S.length = n := by rw [← hnl, ← hm, List.length_map]
    obtain ⟨A2, c2, rfl, _, hrd⟩ := ho.readL (fun x hx => f1 x.r (by rw [← hm]; exact List.mem_map_of_mem hx))
    rw [hm] at hrd
    rw [hSl] at hrd ⊢
    clear ho hm
    have s2 := hb2.size
    have g2 := g1.below hb2 (by omega)
    go_wp2_with fail
    refine (split_any hrd (Nat.le_refl _) (by omega) hL).mono ?_
    rintro e w3 ⟨v3, rfl, o3, hb3⟩
    have s3 := hb3.size
    have g3 := g2.below hb3 (by omega)
    clear hrd g1 g2
    go_wp2_with fail
    refine (splitStreams_any g3 (by omega) (by omega)).mono ?_
    rintro e w4 ⟨v4, rfl, o4, hb4⟩
    have s4 := hb4.size
    have hlist := (split_joined L [] (splitM [] none L).1).1
    have hends := split_ends L [] none
    obtain ⟨T, at_, er, hsp⟩ : ∃ T at_ er, splitM [] none L = (T, at_, er) := ⟨_, _, _, rfl⟩
    rw [hsp] at o3 o4 hlist hends ⊢
    simp only at o3 o4 hlist hends ⊢
    clear hsp
    have o3' := o3.keep (F' := But w4 (Mine v3)) (T := fun i => w3.heap.size ≤ i) (Keep.of_below hb4 fun i _ h => h) (fun i hi h => by have := (o3.lt i hi).2; omega) (below_move hb4 (Nat.le_refl _))
    obtain ⟨A3, c3, rfl, _, r3⟩ := o3'.read (F' := (· < w4.heap.size)) (fun i hi => (o3'.lt i hi).2) fun i hi => hi.1
    obtain ⟨A4, c4, rfl, _, r4⟩ := o4.read (F' := (· < w4.heap.size)) (fun i hi => (o4.lt i hi).2) fun i hi => hi.1
    have b04 : Below w.heap.size w w4 := (hb1.trans (hb2.mono s1)).trans ((hb3.mono (by omega)).trans (hb4.mono (by omega)))
    have g4 := g3.below hb4 (by omega)
    have hbe : (er != er) = false := by simp
    have hba : (at_ != at_) = false := by simp
    clear o3 o3' o4 hb1 hb2 hb3 hb4 g3
    by_cases her : er = 0
    · subst her
      obtain rfl := hends.1 rfl
      obtain ⟨T', e1, e2, e3, e4, e5⟩ := hlist rfl
      rw [List.nil_append] at e1
      subst e1
      have h9 := e4 (by simp)
      have E2 := Lib.hid e2
      have E3 := Lib.hid e3
      have hjm : joinM T = joinGo T := by rw [joinM, if_neg (by omega)]
      have HJ := Lib.hid hjm
      clear hlist hends e2 e3 e4 hjm
      go_wp2_with fail
      refine (sameStreams_any r3 r4 (Nat.le_refl _) (by omega) fun s hs => by have := (e5 s hs).1; omega).mono ?_
      rintro e w5 ⟨rfl, hb5⟩
      have s5 := hb5.size
      go_wp2_with fail
      refine (join_any (r3.below hb5 (Nat.le_refl _)) s5 fun s hs => ⟨by have := (e5 s hs).1; omega, fun r hr => hL r ((e5 s hs).2 r hr)⟩).mono ?_
      rintro e w6 ⟨v6, rfl, o6, hb6⟩
      have s6 := hb6.size
      rw [HJ.out, E2.out] at ⊢
      rw [HJ.out] at o6
      obtain ⟨A6, c6, rfl, _, r6⟩ := o6.read (F' := (· < w6.heap.size)) (fun i hi => (o6.lt i hi).2) fun i hi => hi.1
      have hlen : (joinGo T).1.length = n := by have := congrArg List.length E3.out; rw [List.length_map, List.length_map] at this; omega
      rw [hlen] at r6 ⊢
      have g6 := (g4.below hb5 (by omega)).below hb6 (by omega)
      have b06 : Below w.heap.size w w6 := (b04.trans (hb5.mono (by omega))).trans (hb6.mono (by omega))
      clear o6 r3 r4 hb5 hb6 g4 hlen
      go_wp2_with fail
      refine (sameAll_any r6.recs (g6.mono (by omega)) (Nat.le_refl _) (by omega) (alike_of_key E3.out)).mono ?_
      rintro e w7 ⟨rfl, hb7⟩
      have s7 := b06.size
      go_wp2
      go_ret
      exact ⟨rfl, b06.trans (hb7.mono s7)⟩
    · obtain rfl := hends.2 her
      have hb2 : (er != 0) = true := by simp [her]
      clear hlist hends her
      go_wp2_with fail
      refine (sameStreams_any r3 r4 (Nat.le_refl _) (by simp) (by simp)).mono ?_
      rintro e w5 ⟨rfl, hb5⟩
      have s4' := b04.size
      go_wp2
      go_ret
      exact ⟨rfl, b04.trans (hb5.mono s4')⟩
  · have hsh' : shortB L = false := by simpa using hsh
    rw [hsh']
    go_wp2
    go_ret
    exact ⟨rfl, hb1⟩
end Go.Proofs.Ytifcdleibjnknaa
