/- cashbookref7.JoinStreams by its contract. Conditions: the substreams read as such; each has fewer than a million records. -/
import Derived.Test.YtifcdleibjnknaaJoin
import Derived.Test.YtifcdleibjnknaaSplitB0
namespace Go.Proofs.Ytifcdleibjnknaa
open Go.RowKit

theorem recsRowJ : ElemRow Try.prog 22 52 (.agg #[.int .i64 0, .slice none 0 0, .slice none 0 0, .int .i64 0]) 4 64 := by
  obtain ⟨i, hi, h0, h1, h2⟩ := info_parts (P := Try.prog) (e := 52) (z := .agg #[.int .i64 0, .slice none 0 0, .slice none 0 0, .int .i64 0]) (size := 4) (bytes := 64) (by kernel_rfl)
  exact ⟨Try.underlying22, ⟨i, hi, h0, h1, h2⟩, rfl, by omega⟩

theorem any_take_false {R : List RecM} {j : Nat} {r : RecM} (h : (R.take j).any bndR = false) (hr : R[j]? = some r) (hb : bndR r = false) : (R.take (j + 1)).any bndR = false := by
  rw [List.take_add_one, hr, List.any_append, h]
  simp [hb]

theorem checkS_bad {kind : Int} {R : List RecM} {r : RecM} (h0 : ¬ kind < 0) (h1 : ¬ 65535 < kind) (hr : r ∈ R) (hb : bndR r = true) : checkS ⟨kind, R⟩ = 6 := by
  unfold checkS
  rw [if_neg (by simp; omega), if_pos (List.any_eq_true.2 ⟨r, hr, hb⟩)]
theorem checkS_ok {kind : Int} {R : List RecM} (h0 : ¬ kind < 0) (h1 : ¬ 65535 < kind) (hb : R.any bndR = false) : checkS ⟨kind, R⟩ = 0 := by
  unfold checkS
  rw [if_neg (by simp; omega), if_neg (by simp [hb])]

set_option maxHeartbeats 8000000 in
theorem joinStreams_any {w : World} {B n c : Nat} {A : Option Addr} {L : List StreamM} (h : RowF streamForm w (· < B) A n L) (hB : B ≤ w.heap.size) (hL : ∀ s ∈ L, Small s) :
    Calls Try.prog 15 #[.slice A n c] w fun e w' => ∃ v', e = .returned (.tuple #[v', .int .i64 (joinM L).2]) ∧ OwnF recForm w' (But w' (Mine v')) w.heap.size 52 v' (joinM L).1 ∧ Below w.heap.size w w' := by
  have hl := h.len
  by_cases h9 : 9 < n
  · have h9' : (9 : Int) < (n : Int) := by omega
    have HF := Lib.hid (show joinM L = ([], 4) by rw [joinM, if_pos (by omega)])
    clear hl
    go_enter Try.func15, Try.ntmps15
    go_wp2
    go_ret2
    rw [HF.out]
    exact ⟨_, rfl, OwnF.nil _ _ _ _ _, Below.refl _ _⟩
  have h9' : ¬ (9 : Int) < (n : Int) := by omega
  have HM := Lib.hid (show joinM L = joinGo L by rw [joinM, if_neg (by omega)])
  have Hl := Lib.hid hl
  clear hl
  go_enter Try.func15, Try.ntmps15
  go_wp2
  go_loopw [4, 5] (fun v i wr => ∃ (k : Nat) (acc : List RecM), i = .int .i64 k ∧ k ≤ n ∧ acc.length ≤ 1000002 * k ∧ OwnF recForm wr (But wr (Mine v)) w.heap.size 52 v acc ∧ Below w.heap.size w wr ∧
      Hid (joinGo L = if (joinGo (L.drop k)).2 = 0 then (acc ++ (joinGo (L.drop k)).1, 0) else ([], (joinGo (L.drop k)).2))) (fun _ i _ => n - (intOf i).toNat)
  case atStart => exact ⟨0, [], rfl, by omega, by simp, OwnF.nil _ _ _ _ _, Below.refl _ _, Lib.hid (joinGo_start L)⟩
  case round =>
    obtain ⟨k, acc, rfl, hk, hm, ho, hbel, HE⟩ := hrel
    by_cases hkn : k < n
    · have hkl : k < L.length := by have := Hl.out; omega
      obtain ⟨s, hs⟩ : ∃ s, L[k]? = some s := ⟨_, List.getElem?_eq_getElem hkl⟩
      have hdr : L.drop k = s :: L.drop (k + 1) := by
        rw [List.drop_eq_getElem_cons hkl]
        rw [List.getElem?_eq_getElem hkl] at hs
        injection hs with hs
        rw [hs]
      obtain ⟨hsz, hwide⟩ := hL s (List.mem_of_getElem? hs)
      obtain ⟨a, A', c', rfl, hab, c0, c1, hcc, hr⟩ := (h.below hbel hB).stream hs
      obtain ⟨kind, R⟩ := s
      simp only at *
      have HS := Lib.hid hs
      rw [hdr] at HE
      clear hs hdr
      have hkn' : (k : Int) < (n : Int) := by omega
      have hs0 := hbel.size
      have hlt := ho.lt
      obtain ⟨Av, vc, rfl, _⟩ := ho.form
      by_cases h0 : kind < 0
      · have HE2 := Lib.hid (joinGo_stop HE.out (r := ⟨kind, R⟩) (by simp [checkS, h0]))
        have HC := Lib.hid (show checkS ⟨kind, R⟩ = 1 by simp [checkS, h0])
        clear HE
        go_wp2
        go_ret2
        rw [HM.out, HE2.out, HC.out]
        exact ⟨_, rfl, OwnF.nil _ _ _ _ _, hbel⟩
      by_cases h1 : 65535 < kind
      · have HE2 := Lib.hid (joinGo_stop HE.out (r := ⟨kind, R⟩) (by simp [checkS, h1]))
        have HC := Lib.hid (show checkS ⟨kind, R⟩ = 1 by simp [checkS, h1])
        clear HE
        go_wp2
        go_ret2
        rw [HM.out, HE2.out, HC.out]
        exact ⟨_, rfl, OwnF.nil _ _ _ _ _, hbel⟩
      obtain ⟨S, hS1, hS2, hown⟩ := ho.ex
      have g0 : 0 ≤ kind := by omega
      have g1 : kind < 65536 := by omega
      have HSz := Lib.hid hsz
      have hal : ∀ o, Below wr.heap.size wr (wr.alloc o) := fun o => (Below.refl _ _).alloc (Nat.le_refl _) o
      have hx := bof_form (w := wr) (w' := (wr.alloc (.cells #[.int .u8 (kind % 256), .int .u8 (kind / 256)] 5)).alloc (.cells #[.int .i64 2057, .slice (some ⟨wr.heap.size, 0, none⟩) 2 2, .slice none 0 0, .int .i64 0] 52)) (v := .slice Av acc.length vc) (B := wr.heap.size + 1) ⟨g0, g1⟩ ((Below.refl _ _).alloc (by simp) _) (Nat.le_refl _) (fun i hi => (hlt i hi).2)
      have hbA : Below wr.heap.size wr ((wr.alloc (.cells #[.int .u8 (kind % 256), .int .u8 (kind / 256)] 5)).alloc (.cells #[.int .i64 2057, .slice (some ⟨wr.heap.size, 0, none⟩) 2 2, .slice none 0 0, .int .i64 0] 52)) := (hal _).alloc (by simp) _
      have hx1 := Lib.hid hx
      have hk1 : Bk ((wr.alloc (.cells #[.int .u8 (kind % 256), .int .u8 (kind / 256)] 5)).alloc (.cells #[.int .i64 2057, .slice (some ⟨wr.heap.size, 0, none⟩) 2 2, .slice none 0 0, .int .i64 0] 52)) (wr.heap.size + 1) 52 #[.int .i64 2057, .slice (some ⟨wr.heap.size, 0, none⟩) 2 2, .slice none 0 0, .int .i64 0] := by
        simpa using Bk.new (wr.alloc (.cells #[.int .u8 (kind % 256), .int .u8 (kind / 256)] 5)) 52 #[.int .i64 2057, .slice (some ⟨wr.heap.size, 0, none⟩) 2 2, .slice none 0 0, .int .i64 0]
      have hK1 := Lib.hid hk1
      clear hx hk1
      go_wp2_with (at_builtin; refine wpList_app recsRowJ rfl (.tmp 29) (.tmp 37) rfl rfl rfl (own_below hown hbA) (bk_rd (k := 4) (n := 1) hK1.out rfl) ?_ ?_ ?_ ?_ ?_)
      · first | exact ⟨rfl, rfl, rfl, rfl⟩ | (intro u hu; simp at hu; rcases hu with rfl | rfl | rfl | rfl <;> rfl)
      · unfold maxLen; omega
      · omega
      · have := hbA.size; omega
      intro v2 w2 o2 g2 _
      have O2 := OwnF.app hS1 hS2 hbA g2 hx1.out o2
      have hbw : Below w.heap.size w w2 := (hbel.trans (hbA.mono hs0)).trans (g2.below (own_below hown hbA) (by have := hbA.size; omega))
      have HE1 := HE
      obtain ⟨A2, c2, e2, _⟩ := O2.form
      rw [show (acc ++ [bofR kind]).length = acc.length + 1 by simp] at e2
      subst e2
      clear HE o2 g2 hx1 hbA hown hS1 hS2 ho hr c0 c1 hal hlt
      go_wp2
      go_loopw [4, 7] (fun v j wi => ∃ q : Nat, q ≤ R.length ∧ j = .int .i64 q ∧ OwnF recForm wi (But wi (Mine v)) w.heap.size 52 v (acc ++ [bofR kind] ++ (R.take q).map at0) ∧ Below w.heap.size w wi ∧ Hid ((R.take q).any bndR = false)) (fun _ j _ => R.length - (intOf j).toNat)
      case atStart => exact ⟨0, Nat.zero_le _, rfl, by simpa using O2, hbw, Lib.hid (by simp)⟩
      case round =>
        obtain ⟨q, hq, rfl, O, hbi, HN⟩ := hrel
        have hsi := hbi.size
        obtain ⟨a', A3, c3, e3, hab3, c0, c1, hcc3, hr⟩ := (h.below hbi hB).stream HS.out
        simp only at c0 c1 hr hcc3
        injection e3 with e3
        subst e3
        have hlen : (acc ++ [bofR kind] ++ (R.take q).map at0).length = acc.length + 1 + q := by simp; omega
        have HT0 := Lib.hid (show (acc ++ [bofR kind] ++ (R.take R.length).map at0) ++ [eofR] = acc ++ putSM ⟨kind, R⟩ by rw [List.take_length]; simp [putSM])
        obtain ⟨S, hS1, hS2, hown⟩ := O.ex
        obtain ⟨Ak, ck, rfl, _⟩ := O.form
        have hlt2 := O.lt
        clear O O2
        by_cases hqn : q < R.length
        · obtain ⟨ar, rfl, hab4, hall⟩ := hr.at_ (by omega)
          obtain ⟨D, dc, C, cc, hra⟩ := hall q R[q] (List.getElem?_eq_getElem hqn)
          have HT : Hid ((acc ++ [bofR kind] ++ (R.take q).map at0) ++ [at0 R[q]] = acc ++ [bofR kind] ++ (R.take (q + 1)).map at0) := Lib.hid (by rw [← List.take_append_getElem hqn, List.map_append, ← List.append_assoc]; rfl)
          have hmem : R[q] ∈ R := List.getElem_mem hqn
          have hget : R[q]? = some R[q] := List.getElem?_eq_getElem hqn
          clear hall
          generalize R[q] = r at *
          have x0 := hra.c0
          have x1 := hra.c1
          have x2 := hra.c2
          have x3 := hra.c3
          have Hlen := Lib.hid hlen
          have HGet := Lib.hid hget
          generalize acc ++ [bofR kind] ++ (R.take q).map at0 = LL at *
          have l1 : LL.length ≤ 20000000 := by omega
          have hqn' : (q : Int) < (R.length : Int) := by omega
          clear hlen hget
          by_cases ht : r.type = 2057
          · have hb : (r.type == 2057) = true := by simp [ht]
            have HC := Lib.hid (checkS_bad (kind := kind) (by omega) (by omega) hmem (by simp [bndR, bndB, ht]))
            have HE2 := Lib.hid (joinGo_stop HE1.out (r := ⟨kind, R⟩) (by rw [HC.out]; decide))
            clear HE1 ht
            go_wp2
            go_ret2
            rw [HM.out, HE2.out, HC.out]
            exact ⟨_, rfl, OwnF.nil _ _ _ _ _, hbi.alloc hsi _⟩
          · have hb : (r.type == 2057) = false := by simp [ht]
            by_cases h10 : r.type = 10
            · have hb2 : (r.type == 10) = true := by simp [h10]
              have HC := Lib.hid (checkS_bad (kind := kind) (by omega) (by omega) hmem (by simp [bndR, bndB, h10]))
              have HE2 := Lib.hid (joinGo_stop HE1.out (r := ⟨kind, R⟩) (by rw [HC.out]; decide))
              clear HE1 ht h10
              go_wp2
              go_ret2
              rw [HM.out, HE2.out, HC.out]
              exact ⟨_, rfl, OwnF.nil _ _ _ _ _, hbi.alloc hsi _⟩
            · have hb2 : (r.type == 10) = false := by simp [h10]
              have HN2 := Lib.hid (any_take_false HN.out HGet.out (show bndR r = false by simp [bndR, bndB, ht, h10]))
              clear ht h10
              have hbB : Below wr.heap.size wr ((wr.alloc (.cells #[.int .i64 r.type, .slice D r.data.length dc, .slice C r.cuts.length cc, .int .i64 0] 52)).alloc (.cells #[.int .i64 r.type, .slice D r.data.length dc, .slice C r.cuts.length cc, .int .i64 0] 52)) :=
                ((Below.refl _ _).alloc (Nat.le_refl _) _).alloc (by simp) _
              have hsB := hbB.size
              have hx : recForm.R ((wr.alloc (.cells #[.int .i64 r.type, .slice D r.data.length dc, .slice C r.cuts.length cc, .int .i64 0] 52)).alloc (.cells #[.int .i64 r.type, .slice D r.data.length dc, .slice C r.cuts.length cc, .int .i64 0] 52))
                  (But ((wr.alloc (.cells #[.int .i64 r.type, .slice D r.data.length dc, .slice C r.cuts.length cc, .int .i64 0] 52)).alloc (.cells #[.int .i64 r.type, .slice D r.data.length dc, .slice C r.cuts.length cc, .int .i64 0] 52)) (Mine (.slice Ak LL.length ck)))
                  [.int .i64 r.type, .slice D r.data.length dc, .slice C r.cuts.length cc, .int .i64 0] (at0 r) := by
                have hrb := hra.below hbB (by omega)
                refine ⟨D, dc, C, cc, rfl, hrb.rd.data.rdF (fun i hi => ⟨by omega, fun e => ?_⟩), hrb.rd.cuts.rdF (fun i hi => ⟨by omega, fun e => ?_⟩), hrb.rd.dcap, hrb.rd.ccap, hrb.rd.fit⟩
                · have := (hlt2 i e).1; omega
                · have := (hlt2 i e).1; omega
              have hx1 := Lib.hid hx
              have hk1 : Bk ((wr.alloc (.cells #[.int .i64 r.type, .slice D r.data.length dc, .slice C r.cuts.length cc, .int .i64 0] 52)).alloc (.cells #[.int .i64 r.type, .slice D r.data.length dc, .slice C r.cuts.length cc, .int .i64 0] 52)) (wr.heap.size + 1) 52 #[.int .i64 r.type, .slice D r.data.length dc, .slice C r.cuts.length cc, .int .i64 0] := by
                have := Bk.new (wr.alloc (.cells #[.int .i64 r.type, .slice D r.data.length dc, .slice C r.cuts.length cc, .int .i64 0] 52)) 52 #[.int .i64 r.type, .slice D r.data.length dc, .slice C r.cuts.length cc, .int .i64 0]
                simpa using this
              have hK1 := Lib.hid hk1
              clear hx hra hk1
              go_wp2_with (at_builtin; refine wpList_app recsRowJ rfl (.tmp 66) (.tmp 68) rfl rfl rfl (own_below hown hbB) (bk_rd (k := 4) (n := 1) hK1.out rfl) ?_ ?_ ?_ ?_ ?_)
              · first | exact ⟨rfl, rfl, rfl, rfl⟩ | (intro u hu; simp at hu; rcases hu with rfl | rfl | rfl | rfl <;> rfl)
              · unfold maxLen; omega
              · omega
              · omega
              intro v4 w4 o4 g4 _
              have O4 := OwnF.app hS1 hS2 hbB g4 hx1.out o4
              have b4 : Below w.heap.size w w4 := (hbi.trans (hbB.mono hsi)).trans (g4.below (own_below hown hbB) (by omega))
              rw [HT.out] at O4
              clear o4 g4 hx1 hbB hS1 hS2 hown HT Hlen HT0 x0 x1 x2 x3 c0 c1 hr
              go_wp2
              go_roundw
              case rel => exact ⟨q + 1, by omega, by go_num, O4, b4, HN2⟩
              case measure => simp [intOf]; omega
        · obtain rfl : q = R.length := by omega
          have hall0 : R.any bndR = false := by have := HN.out; rwa [List.take_length] at this
          have HC := Lib.hid (checkS_ok (kind := kind) (by omega) (by omega) hall0)
          have HE2 := Lib.hid (joinGo_step HE1.out HC.out)
          have Hlen := Lib.hid hlen
          generalize acc ++ [bofR kind] ++ (R.take R.length).map at0 = LL at *
          have l1 : LL.length ≤ 20000000 := by omega
          have l2 : (acc ++ putSM ⟨kind, R⟩).length ≤ 1000002 * (k + 1) := by rw [← HT0.out]; simp; omega
          clear hlen HE1 hall0
          have hbB : Below wr.heap.size wr (wr.alloc (.cells #[.int .i64 10, .slice none 0 0, .slice none 0 0, .int .i64 0] 52)) := (Below.refl _ _).alloc (Nat.le_refl _) _
          have hsB := hbB.size
          go_wp2_with (at_builtin; refine wpList_app recsRowJ rfl (.tmp 70) (.tmp 72) rfl rfl rfl (own_below hown hbB) (Rd.fresh _ _ 4 1 _ rfl) ?_ ?_ ?_ ?_ ?_)
          · first | exact ⟨rfl, rfl, rfl, rfl⟩ | (intro u hu; simp at hu; rcases hu with rfl | rfl | rfl | rfl <;> rfl)
          · unfold maxLen; omega
          · omega
          · omega
          intro v4 w4 o4 g4 _
          have O4 := OwnF.app hS1 hS2 hbB g4 eof_form o4
          have b4 : Below w.heap.size w w4 := (hbi.trans (hbB.mono hsi)).trans (g4.below (own_below hown hbB) (by omega))
          rw [HT0.out] at O4
          clear o4 g4 hbB hS1 hS2 hown HT0 Hlen c0 c1 hr
          go_wp2
          go_roundw
          case rel => exact ⟨k + 1, _, by go_num, by omega, l2, O4, b4, HE2⟩
          case measure => simp [intOf]; omega
    · have hdr : L.drop k = [] := List.drop_eq_nil_of_le (by have := Hl.out; omega)
      rw [hdr] at HE
      have hfin : joinGo L = (acc, 0) := by rw [HE.out]; simp [joinGo]
      have HF := Lib.hid hfin
      clear HE hdr hfin
      go_wp2
      go_ret2
      rw [HM.out, HF.out]
      exact ⟨_, rfl, ho, hbel⟩
end Go.Proofs.Ytifcdleibjnknaa
