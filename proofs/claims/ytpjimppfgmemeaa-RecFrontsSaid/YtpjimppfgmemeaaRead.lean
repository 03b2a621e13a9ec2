/- rec.Read by its contract. Conditions: the bytes read as such; there are fewer than 10^9. -/
import Derived.Test.YtpjimppfgmemeaaAdd
namespace Go.Proofs.Ytpjimppfgmemeaa
open Go.RowKit

def readM : Nat → List RecM → Nat → List UInt8 → List RecM × Int × Int
  | 0, _, _, _ => ([], 0, 0)
  | f + 1, L, a, b =>
    if b = [] then (L, 0, 0)
    else if (firstM b).2.2 ≠ 0 then ([], a, (firstM b).2.2)
    else if (firstM b).1 = 60 then
      (if contM L (firstM b).2.1.length ≠ 0 then ([], a, contM L (firstM b).2.1.length)
       else readM f (extM L (firstM b).2.1) (a + (4 + (firstM b).2.1.length)) (b.drop (4 + (firstM b).2.1.length)))
    else readM f (L ++ [⟨(firstM b).1, (firstM b).2.1, [], a⟩]) (a + (4 + (firstM b).2.1.length)) (b.drop (4 + (firstM b).2.1.length))

def readAll (b : List UInt8) : List RecM × Int × Int := readM (b.length + 1) [] 0 b

theorem firstM_ok {l : List UInt8} (h : (firstM l).2.2 = 0) : 4 + (firstM l).2.1.length ≤ l.length ∧ (firstM l).2.1.length ≤ 224 ∧ 0 ≤ (firstM l).1 ∧ (firstM l).1 < 65536 := by
  rcases Nat.lt_or_ge l.length 4 with h4 | h4
  · rw [firstM_short h4] at h; cases h
  obtain ⟨x0, x1, x2, x3, r, rfl⟩ := four h4
  have b1 := le2_bd x0 x1
  have b2 := le2_bd x2 x3
  rw [show firstM (x0 :: x1 :: x2 :: x3 :: r) = if 224 < le2 x2 x3 then (0, [], 4) else if (r.length : Int) < le2 x2 x3 then (0, [], 5) else (le2 x0 x1, r.take (le2 x2 x3).toNat, 0) from rfl] at h ⊢
  by_cases h1 : 224 < le2 x2 x3
  · rw [if_pos h1] at h; cases h
  by_cases h2 : (r.length : Int) < le2 x2 x3
  · rw [if_neg h1, if_pos h2] at h; cases h
  rw [if_neg h1, if_neg h2]
  simp only [List.length_take, List.length_cons]
  omega

/-- How long the records of a row may be. -/
def FitR (r : RecM) : Prop := Fit r.type ∧ r.data.length ≤ 65536 ∧ r.cuts.length ≤ r.data.length

theorem FitR.small {r : RecM} (h : FitR r) : Fit r.type ∧ r.data.length ≤ 1000000 ∧ r.cuts.length ≤ 1000000 := ⟨h.1, by have := h.2.1; omega, by have := h.2.1; have := h.2.2; omega⟩

theorem fit_ext {L : List RecM} {l : List UInt8} (h : ∀ r ∈ L, FitR r) (hc : contM L l.length = 0) : ∀ r ∈ extM L l, FitR r := by
  unfold extM
  cases hl : L.getLast? with
  | none => simpa [hl] using h
  | some r =>
    have hr := contM_some hl l.length
    rw [hc] at hr
    have hm : r ∈ L := List.mem_of_getLast? hl
    obtain ⟨f0, f1, f2⟩ := h r hm
    intro s hs
    simp only [List.mem_append, List.mem_singleton] at hs
    rcases hs with hs | rfl
    · exact h s (List.dropLast_subset _ hs)
    · by_cases h1 : l.length = 0 ∨ r.data.length = 0
      · rw [if_pos h1] at hr; cases hr
      rw [if_neg h1] at hr
      by_cases h2 : 65536 < r.data.length + l.length
      · rw [if_pos h2] at hr; cases hr
      refine ⟨f0, ?_, ?_⟩
      · simp only [List.length_append]; omega
      · simp only [List.length_append, List.length_singleton]; omega

theorem ext_len {L : List RecM} {l : List UInt8} : (extM L l).length = L.length := by
  unfold extM
  cases hl : L.getLast? with
  | none => rfl
  | some r =>
    have := congrArg List.length (getLast_split hl)
    simp at this ⊢
    omega

theorem RecsOwn.drewN {w : World} {base : Nat} {v : Value} {S : List Item} (h : RecsOwn w base v S) (d : Nat) : RecsOwn (w.drewN d) base v S := ⟨h.row, h.data, h.cuts, h.dapart, h.capart⟩

set_option maxHeartbeats 1000000 in
theorem read_any {w : World} {B n c : Nat} {A : Option Addr} {b : List UInt8} (h : Rd w B 1 A n (b.map bv)) (hnc : n ≤ c) (hn : n ≤ 1000000000) (hB : B ≤ w.heap.size) :
    Calls Try.prog 18 #[.slice A n c] w fun e w' => ∃ v' S, e = .returned (.tuple #[v', .int .i64 (readAll b).2.1, .int .i64 (readAll b).2.2]) ∧
      RecsOwn w' w.heap.size v' S ∧ S.map (·.r) = (readAll b).1 ∧ (∀ x ∈ S, FitR x.r) ∧ Below w.heap.size w w' := by
  have hbl := h.blen
  have HBL := Lib.hid hbl
  clear hbl
  go_enter Try.func18, Try.ntmps18
  go_wp2
  go_loopw [5, 6, 7] (fun v at_ ev wr => ∃ (a f : Nat) (S : List Item), at_ = .int .i64 a ∧ ev = .int .i64 0 ∧ a ≤ n ∧ S.length ≤ a ∧ n < a + f ∧ RecsOwn wr w.heap.size v S ∧ Below w.heap.size w wr ∧
      Hid (∀ x ∈ S, FitR x.r) ∧ Hid (readAll b = readM f (S.map (·.r)) a (b.drop a))) (fun _ i _ _ => n - (intOf i).toNat)
  case atStart => exact ⟨0, n + 1, [], rfl, rfl, by omega, by simp, by omega, RecsOwn.nil _ _, Below.refl _ _, Lib.hid (by simp), Lib.hid (by rw [← HBL.out]; rfl)⟩
  case round =>
    obtain ⟨a, f, S, rfl, rfl, ha, hSl, hf, ho, hbel, HF, HE⟩ := hrel
    by_cases han : a < n
    · obtain ⟨f, rfl⟩ : ∃ f', f = f' + 1 := ⟨f - 1, by omega⟩
      obtain ⟨ad, rfl, _, _⟩ := h.at_ (by omega)
      have hsub := (h.belowMono hbel hB).sub (i := a) (j := n) (by omega) (by omega)
      rw [List.take_of_length_le (by rw [List.length_drop, HBL.out]; omega)] at hsub
      have hrl : (b.drop a).length = n - a := by rw [List.length_drop, HBL.out]
      have hne : b.drop a ≠ [] := by intro e; rw [e] at hrl; simp at hrl; omega
      have hdd : ∀ k, (b.drop a).drop k = b.drop (a + k) := fun k => by rw [List.drop_drop]
      have hrd := HE.out
      rw [readM, if_neg hne] at hrd
      generalize b.drop a = rest at *
      have hfirst := first_any (c := c - a) hsub (by omega) (by omega)
      have hok := firstM_ok (l := rest)
      rw [hrl] at hok
      obtain ⟨kd, dl, er, hp⟩ : ∃ kd dl er, firstM rest = (kd, dl, er) := ⟨_, _, _, rfl⟩
      rw [hp] at hfirst hok hrd
      simp only at hfirst hok hrd
      have han' : (a : Int) < (n : Int) := by omega
      have hac : c ≠ a := by omega
      have HP := Lib.hid hp
      have HDD := Lib.hid hdd
      have Hok := Lib.hid hok
      have Hfirst := Lib.hid hfirst
      have hs := hbel.size
      clear hrl hne hp hdd hok hfirst hsub HE
      by_cases her : er = 0
      · obtain ⟨q1, q2, q3, q4⟩ := Hok.out her
        subst her
        clear Hok
        by_cases h60 : kd = 60
        · subst h60
          by_cases hct : contM (S.map (·.r)) dl.length = 0
          · have token : True := trivial
            have HCT := Lib.hid hct
            have HRD := Lib.hid (hrd.trans (by rw [if_neg (by simp), if_pos rfl, if_neg (by simp [hct])]))
            clear hrd hct
            go_wp2_with fail
            go_step3
            go_wp2_with fail
            refine Hfirst.out.mono ?_
            rintro e w1 ⟨A', c', rfl, hc', hr', d, rfl⟩
            go_wp2_with fail
            refine (addMore_any (S := S) (ho.drewN d) hs (by omega) (hr'.drewN d) hB (by omega) (fun x hx => (HF.out x hx).small) HCT.out).mono ?_
            rintro e w2 ⟨v2, S2, rfl, ho2, hmap, b2_⟩
            have hlen2 : S2.length ≤ a + (4 + dl.length) := by have := congrArg List.length hmap; rw [ext_len] at this; simp at this; omega
            have HF2 : Hid (∀ x ∈ S2, FitR x.r) := by
              refine Lib.hid fun x hx => ?_
              refine fit_ext (L := S.map (·.r)) (l := dl) (fun r hr => ?_) HCT.out x.r ?_
              · obtain ⟨y, hy, rfl⟩ := List.mem_map.1 hr; exact HF.out y hy
              · rw [← hmap]; exact List.mem_map_of_mem hx
            have HE2 : Hid (readAll b = readM f (S2.map (·.r)) (a + (4 + dl.length)) (b.drop (a + (4 + dl.length)))) := Lib.hid (by rw [HRD.out, HDD.out, hmap])
            clear HRD HF hmap
            go_wp2
            go_step3
            go_wp2
            rw [Exit.noGoto_normal]
            go_wp2
            go_roundw
            case rel => exact ⟨a + (4 + dl.length), f, S2, by go_num, rfl, by omega, by omega, by omega, ho2, hbel.trans ⟨b2_.os, b2_.tape, b2_.output, b2_.size, b2_.block⟩, HF2, HE2⟩
            case measure => simp [intOf]; omega
          · have token : True := trivial
            have HCT := Lib.hid hct
            have hb : (contM (S.map (·.r)) dl.length != 0) = true := by simp [hct]
            have HRD := Lib.hid (show readAll b = ([], (a : Int), contM (S.map (·.r)) dl.length) by rw [hrd, if_neg (by simp), if_pos rfl, if_pos hct])
            clear hrd hct
            go_wp2_with fail
            refine wp_scope_fwd 0 rfl ?_
            go_wp2_with fail
            refine Hfirst.out.mono ?_
            rintro e w1 ⟨A', c', rfl, hc', hr', d, rfl⟩
            go_wp2_with fail
            refine (addNot_any (S := S) (ho.drewN d) (by omega) (by omega) (fun x hx => (HF.out x hx).small) HCT.out).mono ?_
            rintro e w2 ⟨rfl, rfl⟩
            go_wp2
            go_step3
            refine ⟨rfl, ?_⟩
            show Code.wp _ _ _ _ _
            go_wp2
            rw [Exit.noGoto_ret]
            go_wp2
            go_ret3
            rw [HRD.out]
            exact ⟨_, [], rfl, RecsOwn.nil _ _, rfl, by simp, ⟨hbel.os, hbel.tape, hbel.output, hbel.size, hbel.block⟩⟩
        · have token : True := trivial
          have H60 := Lib.hid h60
          have hb : (kd != 60) = true := by simp [h60]
          have HRD := Lib.hid (hrd.trans (by rw [if_neg (by simp), if_neg h60]))
          clear hrd h60
          go_wp2_with fail
          go_step3
          go_wp2_with fail
          refine Hfirst.out.mono ?_
          rintro e w1 ⟨A', c', rfl, hc', hr', d, rfl⟩
          go_wp2_with fail
          refine (addNew_any (S := S) (ho.drewN d) hs (by omega) H60.out (hr'.drewN d) hB (by omega)).mono ?_
          rintro e w2 ⟨v2, d2, rfl, ho2, b2_⟩
          have hlen2 : (S ++ [(⟨⟨kd, dl, [], (a : Int)⟩, d2, .slice none 0 0⟩ : Item)]).length ≤ a + (4 + dl.length) := by simp; omega
          have HF2 : Hid (∀ x ∈ S ++ [(⟨⟨kd, dl, [], (a : Int)⟩, d2, .slice none 0 0⟩ : Item)], FitR x.r) := by
            refine Lib.hid fun x hx => ?_
            rcases List.mem_append.1 hx with hx | hx
            · exact HF.out x hx
            · simp at hx; subst hx; exact ⟨⟨by show _ ≤ kd; omega, by show kd ≤ _; omega⟩, by show dl.length ≤ _; omega, by simp⟩
          have HE2 : Hid (readAll b = readM f ((S ++ [(⟨⟨kd, dl, [], (a : Int)⟩, d2, .slice none 0 0⟩ : Item)]).map (·.r)) (a + (4 + dl.length)) (b.drop (a + (4 + dl.length)))) := Lib.hid (by rw [HRD.out, HDD.out, List.map_append]; rfl)
          clear HRD HF
          go_wp2
          go_step3
          go_wp2
          rw [Exit.noGoto_normal]
          go_wp2
          go_roundw
          case rel => exact ⟨a + (4 + dl.length), f, _, by go_num, rfl, by omega, by omega, by omega, ho2, hbel.trans ⟨b2_.os, b2_.tape, b2_.output, b2_.size, b2_.block⟩, HF2, HE2⟩
          case measure => simp [intOf]; omega
      · have HRD := Lib.hid (show readAll b = ([], (a : Int), er) by rw [hrd, if_pos her])
        have hb : (er != 0) = true := by simp [her]
        clear hrd her
        go_wp2_with fail
        refine wp_scope_fwd 0 rfl ?_
        go_wp2_with fail
        refine Hfirst.out.mono ?_
        rintro e w1 ⟨A', c', rfl, hc', hr', d, rfl⟩
        go_wp2
        go_step3
        refine ⟨rfl, ?_⟩
        show Code.wp _ _ _ _ _
        go_wp2
        rw [Exit.noGoto_ret]
        go_wp2
        go_ret3
        rw [HRD.out]
        exact ⟨_, [], rfl, RecsOwn.nil _ _, rfl, by simp, ⟨hbel.os, hbel.tape, hbel.output, hbel.size, hbel.block⟩⟩
    · have hrl : b.drop a = [] := List.drop_eq_nil_of_le (by have := HBL.out; omega)
      obtain ⟨f, rfl⟩ : ∃ f', f = f' + 1 := ⟨f - 1, by omega⟩
      have hrd := HE.out
      rw [readM, if_pos hrl] at hrd
      have HRD := Lib.hid hrd
      clear hrd hrl HE
      go_wp2
      go_ret3
      rw [HRD.out]
      exact ⟨_, S, rfl, ho, rfl, HF.out, hbel⟩
end Go.Proofs.Ytpjimppfgmemeaa
