/- cashbooklaw6.StrUnits by its contract: it returns true. Condition: utf8.ValidString keeps its contract; the texts' lengths are such. -/
import Derived.Test.YtgepipapppdhfaaDoorKnown6
namespace Go.Proofs.YtgepipapppdhfaaDoor
open Go.RowKit Go.Lib

theorem app_list (a b : ByteArray) : (a ++ b).data.toList = a.data.toList ++ b.data.toList := by simp
theorem app_size (a b : ByteArray) : (a ++ b).size = a.size + b.size := by simp

set_option maxHeartbeats 8000000 in
set_option maxRecDepth 100000 in
theorem unitsLaw_any {w : World} (HV : Val w) (a b : ByteArray) :
    Calls Tryd.prog 5 #[.string a, .string b] w fun e w' => e = .returned (.bool true) ∧ Below w.heap.size w w' := by
  have hb0 := Below.refl w.heap.size w
  have HK := Lib.hid (fun (W : World) (hb : Below w.heap.size w W) => known_any (HV.below hb))
  by_cases h0 : 3000 < a.size
  · have h0' : (3000 : Int) < (a.size : Int) := by omega
    go_enter Tryd.func5, Tryd.ntmps5
    go_wp2_with fail
    refine (HK.out _ hb0).mono ?_
    rintro e w1 ⟨rfl, hc1⟩
    have hb1 := hb0.trans (hc1.mono hb0.size)
    clear hb0 hc1
    go_wp2
    go_ret
    exact ⟨rfl, hb1⟩
  · have h0' : ¬ (3000 : Int) < (a.size : Int) := by omega
    by_cases h1 : 3000 < b.size
    · have h1' : (3000 : Int) < (b.size : Int) := by omega
      go_enter Tryd.func5, Tryd.ntmps5
      go_wp2_with fail
      refine (HK.out _ hb0).mono ?_
      rintro e w1 ⟨rfl, hc1⟩
      have hb1 := hb0.trans (hc1.mono hb0.size)
      clear hb0 hc1
      go_wp2
      go_ret
      exact ⟨rfl, hb1⟩
    · have h1' : ¬ (3000 : Int) < (b.size : Int) := by omega
      have hab : (a ++ b).size ≤ 140737488355328 := by rw [app_size]; omega
      have HA := Lib.hid (fun (W : World) (hb : Below w.heap.size w W) => units_any (HV.below hb) a (by omega))
      have HB := Lib.hid (fun (W : World) (hb : Below w.heap.size w W) => units_any (HV.below hb) b (by omega))
      have HC := Lib.hid (fun (W : World) (hb : Below w.heap.size w W) => units_any (HV.below hb) (a ++ b) hab)
      have NA := Lib.hid (fun (W : World) (_ : Below w.heap.size w W) => narrow_any (w := W) a (by omega))
      have NB := Lib.hid (fun (W : World) (_ : Below w.heap.size w W) => narrow_any (w := W) b (by omega))
      have NC := Lib.hid (fun (W : World) (_ : Below w.heap.size w W) => narrow_any (w := W) (a ++ b) hab)
      have SC := Lib.hid (fun (W : World) (hb : Below w.heap.size w W) => size_any (HV.below hb) (a ++ b) hab)
      rw [app_list] at HC NC SC
      clear HV
      generalize a.data.toList = la at *
      generalize b.data.toList = lb at *
      by_cases ha : uE la = 0
      · by_cases hb : uE lb = 0
        · have va := uE_valid ha
          have vb := uE_valid hb
          have ea : uV la = (unN la : Int) := by unfold uV; rw [if_pos ha]
          have eb : uV lb = (unN lb : Int) := by unfold uV; rw [if_pos hb]
          have ec := uE_app ha hb
          have hn := unN_app lb va.1
          have hna := narB_app lb va.1
          by_cases h2 : 1000 < unN la + unN lb
          · rw [if_pos h2] at ec
            rw [ea, ha] at HA
            rw [eb, hb] at HB
            rw [ec] at HC
            have h2' : (1000 : Int) < (unN la : Int) + (unN lb : Int) := by omega
            obtain ⟨hq1, hq2⟩ : unN la ≤ 1000 ∧ unN lb ≤ 1000 := ⟨va.2, vb.2⟩
            clear NA NB NC SC va vb ea eb ec hn hna ha hb h2
            generalize unN la = n at *
            generalize unN lb = m at *
            generalize uV (la ++ lb) = k at *
            go_enter Tryd.func5, Tryd.ntmps5
            go_wp2_with fail
            refine (HK.out _ hb0).mono ?_
            rintro e w1 ⟨rfl, hc1⟩
            have hb1 := hb0.trans (hc1.mono hb0.size)
            clear hb0 hc1
            go_wp2_with fail
            refine (HA.out _ hb1).mono ?_
            rintro e w2 ⟨rfl, hc2⟩
            have hb2 := hb1.trans (hc2.mono hb1.size)
            clear hb1 hc2
            go_wp2_with fail
            refine (HB.out _ hb2).mono ?_
            rintro e w3 ⟨rfl, hc3⟩
            have hb3 := hb2.trans (hc3.mono hb2.size)
            clear hb2 hc3
            go_wp2_with fail
            refine (HC.out _ hb3).mono ?_
            rintro e w4 ⟨rfl, hc4⟩
            have hb4 := hb3.trans (hc4.mono hb3.size)
            clear hb3 hc4
            go_wp2
            go_ret
            exact ⟨rfl, hb4⟩
          · rw [if_neg h2] at ec
            have ec2 : uV (la ++ lb) = ((unN la + unN lb : Nat) : Int) := by unfold uV; rw [if_pos ec, hn]
            have es : szV (la ++ lb) = if (narB la && narB lb) = true then 3 + ((unN la + unN lb : Nat) : Int) else 3 + 2 * ((unN la + unN lb : Nat) : Int) := by unfold szV; rw [if_pos ec, hn, hna]
            rw [ea, ha] at HA
            rw [eb, hb] at HB
            rw [ec2, ec, Int.natCast_add] at HC
            rw [hna] at NC
            rw [es, Int.natCast_add] at SC
            have h2' : ¬ (1000 : Int) < (unN la : Int) + (unN lb : Int) := by omega
            clear va vb ea eb ec ec2 es hn hna ha hb h2
            generalize unN la = n at *
            generalize unN lb = m at *
            generalize narB la = p at *
            generalize narB lb = q at *
            cases p
            · have SC2 := Lib.hid (fun (W : World) (hb : Below w.heap.size w W) => by have := SC.out W hb; simp only [Bool.false_and, Bool.false_eq_true, if_false] at this; exact this)
              have NC2 := Lib.hid (fun (W : World) (hb : Below w.heap.size w W) => by have := NC.out W hb; simp only [Bool.false_and] at this; exact this)
              clear SC NC NB
              go_enter Tryd.func5, Tryd.ntmps5
              go_wp2_with fail
              refine (HK.out _ hb0).mono ?_
              rintro e w1 ⟨rfl, hc1⟩
              have hb1 := hb0.trans (hc1.mono hb0.size)
              clear hb0 hc1
              go_wp2_with fail
              refine (HA.out _ hb1).mono ?_
              rintro e w2 ⟨rfl, hc2⟩
              have hb2 := hb1.trans (hc2.mono hb1.size)
              clear hb1 hc2
              go_wp2_with fail
              refine (HB.out _ hb2).mono ?_
              rintro e w3 ⟨rfl, hc3⟩
              have hb3 := hb2.trans (hc3.mono hb2.size)
              clear hb2 hc3
              go_wp2_with fail
              refine (HC.out _ hb3).mono ?_
              rintro e w4 ⟨rfl, hc4⟩
              have hb4 := hb3.trans (hc4.mono hb3.size)
              clear hb3 hc4
              go_wp2_with fail
              refine (NC2.out _ hb4).mono ?_
              rintro e w5 ⟨rfl, hc5⟩
              have hb5 := hb4.trans (hc5.mono hb4.size)
              clear hb4 hc5
              go_wp2_with fail
              refine (NC2.out _ hb5).mono ?_
              rintro e w6 ⟨rfl, hc6⟩
              have hb6 := hb5.trans (hc6.mono hb5.size)
              clear hb5 hc6
              go_wp2_with fail
              refine (NA.out _ hb6).mono ?_
              rintro e w7 ⟨rfl, hc7⟩
              have hb7 := hb6.trans (hc7.mono hb6.size)
              clear hb6 hc7
              go_wp2_with fail
              refine (SC2.out _ hb7).mono ?_
              rintro e w8 ⟨rfl, hc8⟩
              have hb8 := hb7.trans (hc8.mono hb7.size)
              clear hb7 hc8
              go_wp2
              go_ret
              exact ⟨rfl, hb8⟩
            · cases q
              · have SC2 := Lib.hid (fun (W : World) (hb : Below w.heap.size w W) => by have := SC.out W hb; simp only [Bool.and_false, Bool.false_eq_true, if_false] at this; exact this)
                have NC2 := Lib.hid (fun (W : World) (hb : Below w.heap.size w W) => by have := NC.out W hb; simp only [Bool.and_false] at this; exact this)
                clear SC NC
                go_enter Tryd.func5, Tryd.ntmps5
                go_wp2_with fail
                refine (HK.out _ hb0).mono ?_
                rintro e w1 ⟨rfl, hc1⟩
                have hb1 := hb0.trans (hc1.mono hb0.size)
                clear hb0 hc1
                go_wp2_with fail
                refine (HA.out _ hb1).mono ?_
                rintro e w2 ⟨rfl, hc2⟩
                have hb2 := hb1.trans (hc2.mono hb1.size)
                clear hb1 hc2
                go_wp2_with fail
                refine (HB.out _ hb2).mono ?_
                rintro e w3 ⟨rfl, hc3⟩
                have hb3 := hb2.trans (hc3.mono hb2.size)
                clear hb2 hc3
                go_wp2_with fail
                refine (HC.out _ hb3).mono ?_
                rintro e w4 ⟨rfl, hc4⟩
                have hb4 := hb3.trans (hc4.mono hb3.size)
                clear hb3 hc4
                go_wp2_with fail
                refine (NC2.out _ hb4).mono ?_
                rintro e w5 ⟨rfl, hc5⟩
                have hb5 := hb4.trans (hc5.mono hb4.size)
                clear hb4 hc5
                go_wp2_with fail
                refine (NC2.out _ hb5).mono ?_
                rintro e w6 ⟨rfl, hc6⟩
                have hb6 := hb5.trans (hc6.mono hb5.size)
                clear hb5 hc6
                go_wp2_with fail
                refine (NA.out _ hb6).mono ?_
                rintro e w7 ⟨rfl, hc7⟩
                have hb7 := hb6.trans (hc7.mono hb6.size)
                clear hb6 hc7
                go_wp2_with fail
                refine (NB.out _ hb7).mono ?_
                rintro e w8 ⟨rfl, hc8⟩
                have hb8 := hb7.trans (hc8.mono hb7.size)
                clear hb7 hc8
                go_wp2_with fail
                refine (SC2.out _ hb8).mono ?_
                rintro e w9 ⟨rfl, hc9⟩
                have hb9 := hb8.trans (hc9.mono hb8.size)
                clear hb8 hc9
                go_wp2
                go_ret
                exact ⟨rfl, hb9⟩
              · have SC2 := Lib.hid (fun (W : World) (hb : Below w.heap.size w W) => by have := SC.out W hb; simp only [Bool.and_self, if_true] at this; exact this)
                have NC2 := Lib.hid (fun (W : World) (hb : Below w.heap.size w W) => by have := NC.out W hb; simp only [Bool.and_self] at this; exact this)
                clear SC NC
                go_enter Tryd.func5, Tryd.ntmps5
                go_wp2_with fail
                refine (HK.out _ hb0).mono ?_
                rintro e w1 ⟨rfl, hc1⟩
                have hb1 := hb0.trans (hc1.mono hb0.size)
                clear hb0 hc1
                go_wp2_with fail
                refine (HA.out _ hb1).mono ?_
                rintro e w2 ⟨rfl, hc2⟩
                have hb2 := hb1.trans (hc2.mono hb1.size)
                clear hb1 hc2
                go_wp2_with fail
                refine (HB.out _ hb2).mono ?_
                rintro e w3 ⟨rfl, hc3⟩
                have hb3 := hb2.trans (hc3.mono hb2.size)
                clear hb2 hc3
                go_wp2_with fail
                refine (HC.out _ hb3).mono ?_
                rintro e w4 ⟨rfl, hc4⟩
                have hb4 := hb3.trans (hc4.mono hb3.size)
                clear hb3 hc4
                go_wp2_with fail
                refine (NC2.out _ hb4).mono ?_
                rintro e w5 ⟨rfl, hc5⟩
                have hb5 := hb4.trans (hc5.mono hb4.size)
                clear hb4 hc5
                go_wp2_with fail
                refine (NC2.out _ hb5).mono ?_
                rintro e w6 ⟨rfl, hc6⟩
                have hb6 := hb5.trans (hc6.mono hb5.size)
                clear hb5 hc6
                go_wp2_with fail
                refine (NA.out _ hb6).mono ?_
                rintro e w7 ⟨rfl, hc7⟩
                have hb7 := hb6.trans (hc7.mono hb6.size)
                clear hb6 hc7
                go_wp2_with fail
                refine (NB.out _ hb7).mono ?_
                rintro e w8 ⟨rfl, hc8⟩
                have hb8 := hb7.trans (hc8.mono hb7.size)
                clear hb7 hc8
                go_wp2_with fail
                refine (SC2.out _ hb8).mono ?_
                rintro e w9 ⟨rfl, hc9⟩
                have hb9 := hb8.trans (hc9.mono hb8.size)
                clear hb8 hc9
                go_wp2
                go_ret
                exact ⟨rfl, hb9⟩
        · rw [ha] at HA
          clear NA NB NC SC
          generalize uV la = n at *
          generalize uV lb = m at *
          generalize uV (la ++ lb) = k at *
          generalize uE (la ++ lb) = g at *
          generalize uE lb = f at *
          go_enter Tryd.func5, Tryd.ntmps5
          go_wp2_with fail
          refine (HK.out _ hb0).mono ?_
          rintro e w1 ⟨rfl, hc1⟩
          have hb1 := hb0.trans (hc1.mono hb0.size)
          clear hb0 hc1
          go_wp2_with fail
          refine (HA.out _ hb1).mono ?_
          rintro e w2 ⟨rfl, hc2⟩
          have hb2 := hb1.trans (hc2.mono hb1.size)
          clear hb1 hc2
          go_wp2_with fail
          refine (HB.out _ hb2).mono ?_
          rintro e w3 ⟨rfl, hc3⟩
          have hb3 := hb2.trans (hc3.mono hb2.size)
          clear hb2 hc3
          go_wp2_with fail
          refine (HC.out _ hb3).mono ?_
          rintro e w4 ⟨rfl, hc4⟩
          have hb4 := hb3.trans (hc4.mono hb3.size)
          clear hb3 hc4
          go_wp2
          go_ret
          exact ⟨rfl, hb4⟩
      · clear NA NB NC SC
        generalize uV la = n at *
        generalize uV lb = m at *
        generalize uV (la ++ lb) = k at *
        generalize uE (la ++ lb) = g at *
        generalize uE lb = f at *
        generalize uE la = e0 at *
        go_enter Tryd.func5, Tryd.ntmps5
        go_wp2_with fail
        refine (HK.out _ hb0).mono ?_
        rintro e w1 ⟨rfl, hc1⟩
        have hb1 := hb0.trans (hc1.mono hb0.size)
        clear hb0 hc1
        go_wp2_with fail
        refine (HA.out _ hb1).mono ?_
        rintro e w2 ⟨rfl, hc2⟩
        have hb2 := hb1.trans (hc2.mono hb1.size)
        clear hb1 hc2
        go_wp2_with fail
        refine (HB.out _ hb2).mono ?_
        rintro e w3 ⟨rfl, hc3⟩
        have hb3 := hb2.trans (hc3.mono hb2.size)
        clear hb2 hc3
        go_wp2_with fail
        refine (HC.out _ hb3).mono ?_
        rintro e w4 ⟨rfl, hc4⟩
        have hb4 := hb3.trans (hc4.mono hb3.size)
        clear hb3 hc4
        go_wp2
        go_ret
        exact ⟨rfl, hb4⟩
end Go.Proofs.YtgepipapppdhfaaDoor
