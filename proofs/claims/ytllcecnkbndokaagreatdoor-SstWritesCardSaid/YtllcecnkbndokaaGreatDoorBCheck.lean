/- cashbookref7.CheckTable by its contract. Conditions: the texts read as such; neither they are too many nor one too long. -/
import Derived.Test.YtllcecnkbndokaaGreatDoorBUnits
import Derived.Test.YtllcecnkbndokaaGreatDoorParts
import Derived.Test.YtllcecnkbndokaaGreatDoorBuild
import Derived.Test.YtllcecnkbndokaaGreatDoorLaw0
namespace Go.Proofs.YtllcecnkbndokaaGreatDoor
open Go.RowKit Go.Lib

theorem dup_dd {L : List (List UInt8)} {i k : Nat} {x : List UInt8} (hi : L[i]? = some x) (hk : L[k]? = some x) (hki : k < i) : (ddT L).length < L.length := by
  rcases Nat.lt_or_ge (ddT L).length L.length with h | h
  · exact h
  · have e := dd_all (L := L) (by omega)
    have hn := nodup_dd L
    rw [e, List.nodup_iff_pairwise_ne, List.pairwise_iff_getElem] at hn
    have hi' := List.getElem?_eq_some_iff.1 hi
    have hk' := List.getElem?_eq_some_iff.1 hk
    exact absurd (hk'.2.trans hi'.2.symm) (hn k i hk'.1 hi'.1 hki)
theorem nodup_no {L : List (List UInt8)} (h : L.Nodup) : ¬ (ddT L).length < L.length := by
  have := len_of_sub L (ddT L) h fun x hx => (mem_dd L x).2 hx
  omega
theorem nodup_take {L : List (List UInt8)} {i : Nat} {x : List UInt8} (h : (L.take i).Nodup) (hi : L[i]? = some x) (hn : x ∉ L.take i) : (L.take (i + 1)).Nodup := by
  rw [List.take_add_one, hi]
  show (L.take i ++ [x]).Nodup
  rw [List.nodup_append]
  refine ⟨h, by simp, fun a ha b hb => ?_⟩
  simp at hb
  rintro rfl
  exact hn (hb ▸ ha)

set_option maxHeartbeats 16000000 in
set_option maxRecDepth 100000 in
theorem bCheck_any {w : World} {B n c : Nat} {A : Option Addr} {L : List (List UInt8)} {u : Int} (h : Rd w B 1 A n (L.map tv)) (hB : B ≤ w.heap.size) (hn : n ≤ 1000) (hs : ∀ l ∈ L, l.length ≤ 100000) :
    Calls Tryz.prog 13 #[.agg #[.slice A n c, .int .i64 u]] w fun e w' => e = .returned (.int .i64 (ckTab L u)) ∧ Below w.heap.size w w' := by
  have hl := h.tlen
  obtain ⟨E, hE⟩ : ∃ E, ckT L = E := ⟨_, rfl⟩
  have H0 := Lib.hid hE
  have HSZ := Lib.hid hs
  have hn4 : ¬ (1024 : Int) < (n : Int) := by omega
  clear hE hs
  have s1 := Bk.new w 24 #[.slice A n c, .int .i64 u]
  have hb0 := bx1' w (.cells #[.slice A n c, .int .i64 u] 24)
  go_enter Tryz.func13, Tryz.ntmps13
  go_wp2_with fail
  generalize hWW : w.alloc (.cells #[.slice A n c, .int .i64 u] 24) = W0 at *
  clear hWW
  go_loopw [3, 4, 5] (fun i _ _ wr => ∃ k : Nat, k ≤ n ∧ i = .int .i64 k ∧ Bk wr w.heap.size 24 #[.slice A n c, .int .i64 u] ∧ Below w.heap.size w wr ∧ Hid (ckT (L.drop k) = E)) (fun i _ _ _ => n - (Go.RowKit.intOf i).toNat)
  case atStart => exact ⟨0, Nat.zero_le _, rfl, s1, hb0, Lib.hid (by rw [List.drop_zero, H0.out])⟩
  case round =>
    obtain ⟨k, hk, rfl, k1, hbel, HE⟩ := hrel
    have hsz := hbel.size
    have c10 := k1.cell 0
    by_cases hkn : k < n
    · have hkn' : (k : Int) < (n : Int) := by omega
      obtain ⟨ra, s, rfl, hab, hsi, hcell⟩ := (h.belowMono hbel hB).strAt hkn
      have hst := ckT_drop hsi
      have hss : s.size ≤ 100000 := by have := HSZ.out _ (List.mem_of_getElem? hsi); simpa using this
      have hU := bUnits_any (w := wr) s (by omega)
      clear hsi h HSZ s1 hb0
      by_cases h0 : uE s.data.toList = 0
      · rw [h0] at hU
        have HU := Lib.hid hU
        have HE2 : Hid (ckT (L.drop (k + 1)) = E) := Lib.hid (by rw [← HE.out, hst, if_pos h0])
        clear hU hst h0 HE
        generalize uV s.data.toList = V at *
        go_wp2_with fail
        refine HU.out.mono ?_
        rintro e w2 ⟨rfl, hb2⟩
        have hbel2 := hbel.trans (hb2.mono hbel.size)
        have j1 := k1.below hb2 k1.lt
        clear HU hcell hb2 k1 c10
        go_wp2
        go_roundw
        case rel => exact ⟨k + 1, by omega, by go_num, j1, hbel2, HE2⟩
        case measure => simp [Go.RowKit.intOf]; omega
      · have he : uE s.data.toList = E := by rw [← HE.out, hst, if_neg h0]
        rw [he] at hU h0
        have HU := Lib.hid hU
        have hb : (E != 0) = true := by simpa using h0
        have HF := Lib.hid (show ckTab L u = E by
          have hx : ckT L ≠ 0 := by rw [H0.out]; exact h0
          unfold ckTab
          rw [if_neg (by omega), if_pos hx, H0.out])
        clear hU hst h0 HE he H0
        generalize uV s.data.toList = V at *
        go_wp2_with fail
        refine HU.out.mono ?_
        rintro e w2 ⟨rfl, hb2⟩
        have hbel2 := hbel.trans (hb2.mono hbel.size)
        clear HU hcell hb2 k1 c10
        go_wp2
        go_ret
        exact ⟨by rw [HF.out]; rfl, hbel2⟩
    · obtain rfl : k = n := by omega
      have he : E = 0 := by
        rw [← HE.out, List.drop_eq_nil_of_le (by omega)]
        rfl
      subst he
      clear HE HSZ s1 hb0 hkn
      go_wp2
      generalize hX : wr = W2 at *
      clear hX
      go_loopw [6] (fun i wr' => ∃ j d : Nat, j ≤ k ∧ i = .int .i64 j ∧ wr' = W2.drewN d ∧ Hid ((L.take j).Nodup)) (fun i _ => k - (Go.RowKit.intOf i).toNat)
      case atStart => exact ⟨0, 0, Nat.zero_le _, rfl, rfl, Lib.hid (by simp)⟩
      case round =>
        obtain ⟨i, d, hi, rfl, rfl, HN⟩ := hrel
        by_cases hin : i < k
        · have hin' : (i : Int) < (k : Int) := by omega
          go_wp2
          go_loopw [7] (fun j w' => ∃ m d : Nat, m ≤ i ∧ j = .int .i64 m ∧ w' = W2.drewN d ∧ Hid (∀ x ∈ L.take m, L[i]? ≠ some x)) (fun j _ => i - (Go.RowKit.intOf j).toNat)
          case atStart => exact ⟨0, _, Nat.zero_le _, rfl, rfl, Lib.hid (by simp)⟩
          case round =>
            obtain ⟨m, d, hm, rfl, rfl, HX⟩ := hrel
            by_cases hmi : m < i
            · have hmi' : (m : Int) < (i : Int) := by omega
              have hmk' : (m : Int) < (k : Int) := by omega
              obtain ⟨ra, x, rfl, _, hx, hc⟩ := (h.belowMono hbel hB).tvAt (i := m) (by omega)
              obtain ⟨ra2, y, hra, _, hy, hc2⟩ := (h.belowMono hbel hB).tvAt hin
              injection hra with hra
              subst hra
              have e3 := strOf_eq x y
              by_cases hxy : x = y
              · subst hxy
                rw [decide_eq_true rfl] at e3
                have HF := Lib.hid (show ckTab L u = 7 by
                  have hd := dup_dd hy hx hmi
                  unfold ckTab
                  rw [if_neg (by omega), if_neg (by rw [H0.out]; simp), if_pos hd])
                have hbd := fun d => below_drewN hbel d
                clear hx hy HX HN H0 h k1
                go_wp2
                go_quiet (fail)
                go_wp2
                go_ret
                exact ⟨by rw [HF.out]; rfl, by first | exact hbd _ | (rw [World.drewN_drewN]; exact hbd _)⟩
              · rw [decide_eq_false hxy] at e3
                have HX2 : Hid (∀ z ∈ L.take (m + 1), L[i]? ≠ some z) := Lib.hid (by
                  intro z hz
                  rw [List.take_add_one, hx] at hz
                  rcases List.mem_append.1 hz with hz | hz
                  · exact HX.out z hz
                  · have hz' : z = x := by simpa using hz
                    rw [hy, hz']
                    intro e
                    injection e with e
                    exact hxy e.symm)
                clear hx hy hxy HX
                go_wp2
                go_quiet (fail)
                go_wp2
                go_roundw
                case rel => exact ⟨m + 1, _, by omega, by go_num, rfl, HX2⟩
                case measure => simp [Go.RowKit.intOf]; omega
            · obtain rfl : m = i := by omega
              have HN2 : Hid ((L.take (m + 1)).Nodup) := Lib.hid (by
                have hy : L[m]? = some (L[m]'(by omega)) := List.getElem?_eq_getElem _
                exact nodup_take HN.out hy fun hmem => HX.out _ hmem hy)
              clear hmi HX HN
              go_wp2
              go_roundw
              case rel => exact ⟨m + 1, _, by omega, by go_num, rfl, HN2⟩
              case measure => simp [Go.RowKit.intOf]; omega
        · obtain rfl : i = k := by omega
          have hno := nodup_no (L := L) (by have := HN.out; rwa [List.take_of_length_le (by omega)] at this)
          have c11 := k1.cell 1
          have hbd := fun d => below_drewN hbel d
          by_cases h2 : u < (i : Int)
          · have HF := Lib.hid (show ckTab L u = 1 by unfold ckTab; rw [if_neg (by omega), if_neg (by rw [H0.out]; simp), if_neg hno, if_pos (by omega)])
            clear hno HN H0 h k1 hin
            go_wp2
            try (go_quiet (fail); go_wp2)
            go_ret
            exact ⟨by rw [HF.out]; rfl, by first | exact hbd _ | (rw [World.drewN_drewN]; exact hbd _)⟩
          · by_cases h3 : 2147483647 < u
            · have HF := Lib.hid (show ckTab L u = 1 by unfold ckTab; rw [if_neg (by omega), if_neg (by rw [H0.out]; simp), if_neg hno, if_pos (by omega)])
              clear hno HN H0 h k1 hin
              go_wp2
              try (go_quiet (fail); go_wp2)
              go_ret
              exact ⟨by rw [HF.out]; rfl, by first | exact hbd _ | (rw [World.drewN_drewN]; exact hbd _)⟩
            · have HF := Lib.hid (show ckTab L u = 0 by unfold ckTab; rw [if_neg (by omega), if_neg (by rw [H0.out]; simp), if_neg hno, if_neg (by omega)])
              clear hno HN H0 h k1 hin
              go_wp2
              try (go_quiet (fail); go_wp2)
              go_ret
              exact ⟨by rw [HF.out]; rfl, by first | exact hbd _ | (rw [World.drewN_drewN]; exact hbd _)⟩
end Go.Proofs.YtllcecnkbndokaaGreatDoor
