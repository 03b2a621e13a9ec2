/- cashbookref7.SplitStreams by its contract. Conditions: the records read as such; there are no more than a million. -/
import Derived.Test.YtifcdleibjnknaaSplitB0
namespace Go.Proofs.Ytifcdleibjnknaa
open Go.RowKit

theorem streamsRowB : ElemRow Try.prog 31 39 (.agg #[.int .i64 0, .slice none 0 0]) 2 32 := by
  obtain ⟨i, hi, h0, h1, h2⟩ := info_parts (P := Try.prog) (e := 39) (z := .agg #[.int .i64 0, .slice none 0 0]) (size := 2) (bytes := 32) (by kernel_rfl)
  exact ⟨Try.underlying31, ⟨i, hi, h0, h1, h2⟩, rfl, by omega⟩
theorem recsRowB : ElemRow Try.prog 22 52 (.agg #[.int .i64 0, .slice none 0 0, .slice none 0 0, .int .i64 0]) 4 64 := by
  obtain ⟨i, hi, h0, h1, h2⟩ := info_parts (P := Try.prog) (e := 52) (z := .agg #[.int .i64 0, .slice none 0 0, .slice none 0 0, .int .i64 0]) (size := 4) (bytes := 64) (by kernel_rfl)
  exact ⟨Try.underlying22, ⟨i, hi, h0, h1, h2⟩, rfl, by omega⟩


theorem outN_two {t : Int} {dn cn n : Nat} (ht : t = 2057) (h9 : ¬ 9 ≤ n) (h : dn ≠ 2 ∨ cn ≠ 0) : outN t dn cn n = 2 := by
  unfold outN
  rw [if_neg (by simp [ht]), if_neg h9, if_pos (by omega)]
theorem inN_two {t : Int} {dn cn : Nat} (ht : t = 10) (h : dn ≠ 0 ∨ cn ≠ 0) : inN t dn cn = 2 := by
  unfold inN
  rw [if_neg (by omega), if_pos ⟨ht, by omega⟩]

theorem own_frozen {w : World} {base k n g : Nat} {e : TypeId} {v : Value} {xs : List Value} (h : w.ownsRow base e k v n xs) (hg : v.ownBlock = some g) (j : Nat) : w.frozen? ⟨g, j, none⟩ = false := by
  rcases h.2 with ⟨rfl, _⟩ | ⟨g', cap, cur, rfl, hb, hh, _⟩
  · cases hg
  · simp only [Value.ownBlock, Option.some.injEq] at hg
    subst hg
    exact Bk.frozen (t := e) (cs := cur) hh j

/-- Where the loop stands: no substream is open; one is. -/
def StB (w : World) (L : List RecM) (k : Nat) (v o bg : Value) (W : World) : Prop :=
  (∃ (done : List StreamM) (b : Int), o = .bool false ∧ bg = .int .i64 b ∧ OwnF streamForm W (But W (Mine v)) w.heap.size 39 v done ∧ done.length ≤ 9 ∧ splitM [] none L = splitM done none (L.drop k)) ∨
  (∃ (done : List StreamM) (kind b : Int) (recs : List RecM) (vo : Value), o = .bool true ∧ bg = .int .i64 b ∧ OpenB w v vo done kind recs W ∧ done.length ≤ 8 ∧ recs.length ≤ k ∧ splitM [] none L = splitM done (some (⟨kind, recs⟩, b)) (L.drop k))

set_option maxHeartbeats 8000000 in
set_option maxRecDepth 20000 in
theorem splitStreams_any {w : World} {B n c : Nat} {A : Option Addr} {L : List RecM} (h : RecsRd w B A n L) (hB : B ≤ w.heap.size) (hn : n ≤ 1000000) :
    Calls Try.prog 10 #[.slice A n c] w fun e w' => ∃ v', e = .returned (.tuple #[v', .int .i64 (splitM [] none L).2.1, .int .i64 (splitM [] none L).2.2]) ∧
      OwnF streamForm w' (But w' (Mine v')) w.heap.size 39 v' (splitM [] none L).1 ∧ Below w.heap.size w w' := by
  go_enter Try.func10, Try.ntmps10
  go_wp2
  go_loopw [5, 6, 7, 8] (fun v o bg i wr => ∃ k : Nat, k ≤ n ∧ i = .int .i64 k ∧ Below w.heap.size w wr ∧ StB w L k v o bg wr) (fun _ _ _ i _ => n - (intOf i).toNat)
  case atStart => exact ⟨0, Nat.zero_le _, rfl, Below.refl _ _, .inl ⟨[], 0, rfl, rfl, OwnF.nil _ _ _ _ _, by simp, by simp⟩⟩
  case round =>
    obtain ⟨k, hk, rfl, hbel, hst⟩ := hrel
    have hs := hbel.size
    have hll := h.len
    by_cases hkn : k < n
    · obtain ⟨a0, rfl, hab, hall⟩ := h.at_ (by omega)
      have hkl : k < L.length := by omega
      obtain ⟨D, dc, C, cc, hr⟩ := hall k L[k] (List.getElem?_eq_getElem hkl)
      have hdr : L.drop k = L[k] :: L.drop (k + 1) := List.drop_eq_getElem_cons hkl
      clear hall
      have hr' := hr.below hbel hB
      generalize L[k] = r at *
      have c0 := hr'.c0
      have c1 := hr'.c1
      have c2 := hr'.c2
      have c3 := hr'.c3
      have hkn' : (k : Int) < (n : Int) := by omega
      have hal : ∀ o, Below wr.heap.size wr (wr.alloc o) := fun o => (Below.refl _ _).alloc (Nat.le_refl _) o
      rcases hst with ⟨done, b, rfl, rfl, hO, h9, HE⟩ | ⟨done, kind, b, recs, vo, rfl, rfl, hO, h8, hrl, HE⟩
      · rw [hdr, splitM] at HE
        obtain ⟨S, hS1, hS2, ho⟩ := hO.ex
        obtain ⟨Av, vc, rfl, _⟩ := hO.form
        have hlt := hO.lt
        clear hdr hr hkl hll
        by_cases ht : r.type = 2057
        · have hb1 : (r.type != 2057) = false := by simp [ht]
          have hb2 : (r.type == 2057) = true := by simp [ht]
          by_cases h98 : 9 ≤ done.length
          · have h98' : (8 : Int) < (done.length : Int) := by omega
            have HF := Lib.hid (show splitM [] none L = ([], r.at_, 4) by rw [HE, if_neg (by simp [outN, ht, h98])]; simp [outN, ht, h98])
            clear HE ht
            go_wp2
            go_quiet (fail)
            go_wp2
            go_ret3
            rw [HF.out]
            exact ⟨_, rfl, OwnF.nil _ _ _ _ _, below_drewN (hbel.trans ((hal _).mono hs)) _⟩
          · have h98' : ¬ (8 : Int) < (done.length : Int) := by omega
            have hlt9 : done.length ≤ 8 := by omega
            by_cases hd : r.data.length = 2
            · have hd' : ((r.data.length : Int) != 2) = false := by simp [hd]
              by_cases hc : r.cuts.length = 0
              · have hc' : ((r.cuts.length : Int) != 0) = false := by simp [hc]
                obtain ⟨t, data, cuts, at_⟩ := r
                match data, hd, cuts, hc with
                | [x, y], _, [], _ =>
                  simp only at ht
                  have HF := Lib.hid (show splitM [] none L = splitM done (some (⟨le2 x y, []⟩, at_)) (L.drop (k + 1)) by rw [HE, if_pos (by simp [outN, ht]; omega)]; rfl)
                  have hrd := hr'.rd.data
                  simp only [List.length_cons, List.length_nil, Nat.zero_add, Nat.reduceAdd] at c0 c1 c2 c3 hd' hc' hb1 hb2 hrd
                  clear HE ht hr'
                  obtain ⟨dA, rfl, hdl, hdc⟩ := hrd.at_ (by omega)
                  have w0 : wr.cell? dA = some (.int .u8 (x.toNat : Int)) := by simpa [Addr.add, bv] using hdc 0 (bv x) rfl
                  have w1 : wr.cell? ⟨dA.block, dA.off + 1, none⟩ = some (.int .u8 (y.toNat : Int)) := hdc 1 (bv y) rfl
                  have bx := x.toNat_lt
                  have by_ := y.toNat_lt
                  have wbx := wrap_byte x
                  have wby := wrap_byte y
                  have wb2 : IntKind.i64.wrap (256 * (y.toNat : Int)) = 256 * (y.toNat : Int) := IntWalk.i64_in _ (by omega)
                  have wb3 : IntKind.i64.wrap ((x.toNat : Int) + 256 * (y.toNat : Int)) = le2 x y := by
                    have e : (x.toNat : Int) + 256 * (y.toNat : Int) = le2 x y := by unfold le2; omega
                    rw [e]
                    have := le2_bd x y
                    exact IntWalk.i64_in _ (by omega)
                  clear hdc hrd
                  have hdw : dA.block < wr.heap.size := by omega
                  have hb0 : Below wr.heap.size wr (wr.alloc (.cells #[.int .i64 t, .slice (some dA) 2 dc, .slice C 0 cc, .int .i64 at_] 52)) := hal _
                  have kb : Bk (wr.alloc (.cells #[.int .i64 t, .slice (some dA) 2 dc, .slice C 0 cc, .int .i64 at_] 52)) wr.heap.size 52 #[.int .i64 t, .slice (some dA) 2 dc, .slice C 0 cc, .int .i64 at_] := Bk.new _ _ _
                  have sz0 : wr.heap.size < (wr.alloc (.cells #[.int .i64 t, .slice (some dA) 2 dc, .slice C 0 cc, .int .i64 at_] 52)).heap.size := by simp
                  go_wp2_with fail
                  have w0' := (hb0.cell (p := dA) hdw).trans w0
                  have w1' := (hb0.cell (p := ⟨dA.block, dA.off + 1, none⟩) hdw).trans w1
                  clear w0 w1 c0 c1 c2 c3 hal
                  generalize wr.alloc (.cells #[.int .i64 t, .slice (some dA) 2 dc, .slice C 0 cc, .int .i64 at_] 52) = W0 at *
                  have f0 : W0.cell? ⟨wr.heap.size, 0, none⟩ = some (.int .i64 t) := kb.cell 0
                  have f1 : W0.cell? ⟨wr.heap.size, 1, none⟩ = some (.slice (some dA) 2 dc) := kb.cell 1
                  have f2 : W0.cell? ⟨wr.heap.size, 2, none⟩ = some (.slice C 0 cc) := kb.cell 2
                  have f3 : W0.cell? ⟨wr.heap.size, 3, none⟩ = some (.int .i64 at_) := kb.cell 3
                  have hbN : Below wr.heap.size wr ((W0.alloc (.cells #[.int .i64 (le2 x y), .slice none 0 0] 39)).drew) := (hb0.alloc (by omega) _).trans (Below.refl _ _).drew
                  have ho' : ((W0.alloc (.cells #[.int .i64 (le2 x y), .slice none 0 0] 39)).drew).ownsRow w.heap.size 39 2 (.slice Av done.length vc) done.length (S.flatMap (·.1)) := own_below ho hbN
                  have hk' : Bk ((W0.alloc (.cells #[.int .i64 (le2 x y), .slice none 0 0] 39)).drew) W0.heap.size 39 #[.int .i64 (le2 x y), .slice none 0 0] := Bk.new W0 _ _
                  have hr' : Rd ((W0.alloc (.cells #[.int .i64 (le2 x y), .slice none 0 0] 39)).drew) _ 2 (some ⟨W0.heap.size, 0, none⟩) 1 [.int .i64 (le2 x y), .slice none 0 0] := bk_rd (k := 2) (n := 1) hk' rfl
                  have h1' : ∀ u ∈ [Value.int .i64 (le2 x y), .slice none 0 0], u.oneCell' = true := by intro u hu; simp at hu; rcases hu with rfl | rfl <;> rfl
                  have kb' : Bk ((W0.alloc (.cells #[.int .i64 (le2 x y), .slice none 0 0] 39)).drew) wr.heap.size 52 #[.int .i64 t, .slice (some dA) 2 dc, .slice C 0 cc, .int .i64 at_] := kb.alloc _
                  have e1' : done.length + 1 ≤ maxLen := by unfold maxLen; omega
                  have e2' : (done.length + 1) * 32 ≤ 140737488355328 := by omega
                  have sz' : w.heap.size ≤ ((W0.alloc (.cells #[.int .i64 (le2 x y), .slice none 0 0] 39)).drew).heap.size := by have := hbN.size; omega
                  have i0 : (0 : Nat) < 2 := by omega
                  have i1 : (1 : Nat) < 2 := by omega
                  go_region_law (
                    (refine step_app streamsRowB rfl (.tmp 75) (.tmp 89) rfl rfl rfl ho' hr' h1' e1' e2' sz' ?_
                     intro v2 w2 o2 g2 b2_
                     have kb2 := g2.bk ho' kb' (by decide)
                     have y3 : w2.cell? ⟨wr.heap.size, 3, none⟩ = some (.int .i64 at_) := kb2.cell 3))
                  all_goals
                    have hO3 := OpenB.opened hS1 hS2 hbN g2 o2
                    have hbf : Below w.heap.size w w2 := (hbel.trans (hbN.mono hs)).trans b2_
                    clear g2 o2 b2_ kb2 ho' hk' hr' kb' hbN hO
                    go_wp2
                    go_roundw
                    case rel => exact ⟨k + 1, by omega, by go_num, hbf, .inr ⟨done, le2 x y, at_, [], .slice none 0 0, rfl, rfl, hO3, hlt9, by simp, HF.out⟩⟩
                    case measure => simp [intOf]; omega
              · have hc' : ((r.cuts.length : Int) != 0) = true := by rw [bne_iff_ne]; omega
                have HF := Lib.hid (show splitM [] none L = ([], r.at_, 2) by rw [HE, outN_two ht h98 (.inr hc), if_neg (by decide)])
                clear HE ht hd hc
                go_wp2
                go_quiet (fail)
                go_wp2
                go_ret3
                rw [HF.out]
                exact ⟨_, rfl, OwnF.nil _ _ _ _ _, below_drewN (hbel.trans ((hal _).mono hs)) _⟩
            · have hd' : ((r.data.length : Int) != 2) = true := by rw [bne_iff_ne]; omega
              have HF := Lib.hid (show splitM [] none L = ([], r.at_, 2) by rw [HE, outN_two ht h98 (.inl hd), if_neg (by decide)])
              clear HE ht hd
              go_wp2
              go_quiet (fail)
              go_wp2
              go_ret3
              rw [HF.out]
              exact ⟨_, rfl, OwnF.nil _ _ _ _ _, below_drewN (hbel.trans ((hal _).mono hs)) _⟩
        · have hb1 : (r.type != 2057) = true := by simp [ht]
          have HF := Lib.hid (show splitM [] none L = ([], r.at_, 6) by rw [HE, if_neg (by simp [outN, ht])]; simp [outN, ht])
          clear HE ht
          go_wp2
          go_quiet (fail)
          go_wp2
          go_ret3
          rw [HF.out]
          exact ⟨_, rfl, OwnF.nil _ _ _ _ _, below_drewN (hbel.trans ((hal _).mono hs)) _⟩
      · rw [hdr, splitM] at HE
        obtain ⟨q1, q2, q3⟩ := hO.apart
        obtain ⟨S, hS1, hS2, ho⟩ := hO.ex
        obtain ⟨g, vc, rfl⟩ : ∃ g vc, u5 = .slice (some ⟨g, 0, none⟩) (done.length + 1) vc := by
          rcases ho.2 with ⟨_, h0⟩ | ⟨g, cap, cur, rfl, _⟩
          · omega
          · exact ⟨g, cap, rfl⟩
        obtain ⟨Ao, oc, rfl, _⟩ := hO.own.form
        clear hdr hr hkl hll
        by_cases ht : r.type = 2057
        · have hb1 : (r.type != 2057) = false := by simp [ht]
          have hb2 : (r.type == 2057) = true := by simp [ht]
          have HF := Lib.hid (show splitM [] none L = ([], r.at_, 6) by rw [HE, if_neg (by simp [inN, ht])]; simp [inN, ht])
          clear HE ht
          go_wp2
          go_quiet (fail)
          go_wp2
          go_ret3
          rw [HF.out]
          exact ⟨_, rfl, OwnF.nil _ _ _ _ _, below_drewN (hbel.trans ((hal _).mono hs)) _⟩
        · have hb1 : (r.type != 2057) = true := by simp [ht]
          have hb2 : (r.type == 2057) = false := by simp [ht]
          by_cases h10 : r.type = 10
          · have hb3 : (r.type == 10) = true := by simp [h10]
            by_cases hd : r.data.length = 0
            · have hd' : ((r.data.length : Int) != 0) = false := by simp [hd]
              by_cases hc : r.cuts.length = 0
              · have hc' : ((r.cuts.length : Int) != 0) = false := by simp [hc]
                have HF := Lib.hid (show splitM [] none L = splitM (done ++ [⟨kind, recs⟩]) none (L.drop (k + 1)) by rw [HE, if_pos (by simp [inN, h10, hd, hc]), if_pos h10])
                have hcl := (hO.below (hal (.cells #[.int .i64 r.type, .slice D r.data.length dc, .slice C r.cuts.length cc, .int .i64 r.at_] 52))).closed
                clear HE ht h10
                have HD := Lib.hid hd
                have HC := Lib.hid hc
                clear hd hc
                go_wp2
                go_roundw
                case rel => exact ⟨k + 1, by omega, by go_num, hbel.trans ((hal _).mono hs), .inl ⟨_, b, rfl, rfl, hcl, by simp; omega, HF.out⟩⟩
                case measure => simp [intOf]; omega
              · have hc' : ((r.cuts.length : Int) != 0) = true := by rw [bne_iff_ne]; omega
                have HF := Lib.hid (show splitM [] none L = ([], r.at_, 2) by rw [HE, inN_two h10 (.inr hc), if_neg (by decide)])
                have HD := Lib.hid hd
                have HC := Lib.hid hc
                clear HE ht h10 hd hc
                go_wp2
                go_quiet (fail)
                go_wp2
                go_ret3
                rw [HF.out]
                exact ⟨_, rfl, OwnF.nil _ _ _ _ _, below_drewN (hbel.trans ((hal _).mono hs)) _⟩
            · have hd' : ((r.data.length : Int) != 0) = true := by rw [bne_iff_ne]; omega
              have HF := Lib.hid (show splitM [] none L = ([], r.at_, 2) by rw [HE, inN_two h10 (.inl hd), if_neg (by decide)])
              clear HE ht h10 hd
              go_wp2
              go_quiet (fail)
              go_wp2
              go_ret3
              rw [HF.out]
              exact ⟨_, rfl, OwnF.nil _ _ _ _ _, below_drewN (hbel.trans ((hal _).mono hs)) _⟩
          · have hb3 : (r.type == 10) = false := by simp [h10]
            have HF := Lib.hid (show splitM [] none L = splitM done (some (⟨kind, recs ++ [r]⟩, b)) (L.drop (k + 1)) by rw [HE, if_pos (by simp [inN, ht, h10]), if_neg h10])
            clear HE ht h10
            go_wp2_with fail
            have hO2 := hO.below (hal (.cells #[.int .i64 r.type, .slice D r.data.length dc, .slice C r.cuts.length cc, .int .i64 r.at_] 52))
            have hbx : Bk (wr.alloc (.cells #[.int .i64 r.type, .slice D r.data.length dc, .slice C r.cuts.length cc, .int .i64 r.at_] 52)) wr.heap.size 52 #[.int .i64 r.type, .slice D r.data.length dc, .slice C r.cuts.length cc, .int .i64 r.at_] := Bk.new _ _ _
            have hb0 : Below w.heap.size w (wr.alloc (.cells #[.int .i64 r.type, .slice D r.data.length dc, .slice C r.cuts.length cc, .int .i64 r.at_] 52)) := hbel.trans ((hal _).mono hs)
            have hrw := hr'.below (hal (.cells #[.int .i64 r.type, .slice D r.data.length dc, .slice C r.cuts.length cc, .int .i64 r.at_] 52)) (by omega)
            clear ho hS1 hS2 hr' c0 c1 c2 c3 hO hal
            generalize wr.alloc (.cells #[.int .i64 r.type, .slice D r.data.length dc, .slice C r.cuts.length cc, .int .i64 r.at_] 52) = W0 at *
            obtain ⟨S, hS1, hS2, ho⟩ := hO2.ex
            obtain ⟨S2, hR1, hR2, hq⟩ := hO2.own.ex
            have hxn : (S.flatMap (·.1)).length = done.length * 2 := by rw [flat_len (k := 2) fun p hp => streamForm.len (hS2 p hp), ← hS1, List.length_map]
            have hxl : (S.flatMap (·.1) ++ [Value.int .i64 kind, .slice Ao recs.length oc])[done.length * 2 + 1]? = some (.slice Ao recs.length oc) := by rw [List.getElem?_append_right (by omega), hxn, Nat.add_sub_cancel_left]; rfl
            have hbn : ∀ i, Two (.slice (some ⟨g, 0, none⟩) (done.length + 1) vc) (.slice Ao recs.length oc) i → i ≠ wr.heap.size := fun i e => by
              rcases e with e | e
              · have := (q1 i e).2; omega
              · have := (q2 i e).2; omega
            have hFr : ∀ i, i < B → But W0 (Two (.slice (some ⟨g, 0, none⟩) (done.length + 1) vc) (.slice Ao recs.length oc)) i := fun i hi => ⟨by have := hb0.size; omega, fun e => by
              rcases e with e | e
              · have := (q1 i e).1; omega
              · have := (q2 i e).1; omega⟩
            have hrf : recForm.R W0 (But W0 (Two (.slice (some ⟨g, 0, none⟩) (done.length + 1) vc) (.slice Ao recs.length oc))) [.int .i64 r.type, .slice D r.data.length dc, .slice C r.cuts.length cc, .int .i64 r.at_] r :=
              ⟨D, dc, C, cc, rfl, hrw.rd.data.rdF hFr, hrw.rd.cuts.rdF hFr, hrw.rd.dcap, hrw.rd.ccap, hrw.rd.fit⟩
            have hi1 : done.length < done.length + 1 := by omega
            have hi2 : (done.length : Int) < (done.length : Int) + 1 := by omega
            have hs2 := hb0.size
            have fb : W0.cell? ⟨g, done.length * 2 + 1, none⟩ = some (.slice Ao recs.length oc) := by
              have := ho.cells (g := g) rfl (done.length * 2 + 1) (.slice Ao recs.length oc) hxl
              rwa [addr_zero] at this
            have f0 : W0.cell? ⟨wr.heap.size, 0, none⟩ = some (.int .i64 r.type) := hbx.cell 0
            have f1 : W0.cell? ⟨wr.heap.size, 1, none⟩ = some (.slice D r.data.length dc) := hbx.cell 1
            have f2 : W0.cell? ⟨wr.heap.size, 2, none⟩ = some (.slice C r.cuts.length cc) := hbx.cell 2
            have f3 : W0.cell? ⟨wr.heap.size, 3, none⟩ = some (.int .i64 r.at_) := hbx.cell 3
            have hbN : Below W0.heap.size W0 ((W0.alloc (.cells #[.int .i64 r.type, .slice D r.data.length dc, .slice C r.cuts.length cc, .int .i64 r.at_] 52)).drew) := ((Below.refl _ _).alloc (Nat.le_refl _) _).trans (Below.refl _ _).drew
            have hglt : g < W0.heap.size := (ho.lt g rfl).2
            have fbN : ((W0.alloc (.cells #[.int .i64 r.type, .slice D r.data.length dc, .slice C r.cuts.length cc, .int .i64 r.at_] 52)).drew).cell? ⟨g, done.length * 2 + 1, none⟩ = some (.slice Ao recs.length oc) := (hbN.cell (p := ⟨g, done.length * 2 + 1, none⟩) hglt).trans fb
            have fbM : (W0.alloc (.cells #[.int .i64 r.type, .slice D r.data.length dc, .slice C r.cuts.length cc, .int .i64 r.at_] 52)).cell? ⟨g, done.length * 2 + 1, none⟩ = some (.slice Ao recs.length oc) := fbN
            have hKN : Keep (fun _ => False) W0 ((W0.alloc (.cells #[.int .i64 r.type, .slice D r.data.length dc, .slice C r.cuts.length cc, .int .i64 r.at_] 52)).drew) := ((Keep.refl (fun _ => False) W0).alloc _).drew
            have hq' : ((W0.alloc (.cells #[.int .i64 r.type, .slice D r.data.length dc, .slice C r.cuts.length cc, .int .i64 r.at_] 52)).drew).ownsRow w.heap.size 52 4 (.slice Ao recs.length oc) recs.length (S2.flatMap (·.1)) := own_below hq hbN
            have hk' : Bk ((W0.alloc (.cells #[.int .i64 r.type, .slice D r.data.length dc, .slice C r.cuts.length cc, .int .i64 r.at_] 52)).drew) W0.heap.size 52 #[.int .i64 r.type, .slice D r.data.length dc, .slice C r.cuts.length cc, .int .i64 r.at_] := Bk.new W0 _ _
            have hr' : Rd ((W0.alloc (.cells #[.int .i64 r.type, .slice D r.data.length dc, .slice C r.cuts.length cc, .int .i64 r.at_] 52)).drew) _ 4 (some ⟨W0.heap.size, 0, none⟩) 1 [.int .i64 r.type, .slice D r.data.length dc, .slice C r.cuts.length cc, .int .i64 r.at_] := bk_rd (k := 4) (n := 1) hk' rfl
            have h1' : ∀ u ∈ [Value.int .i64 r.type, .slice D r.data.length dc, .slice C r.cuts.length cc, .int .i64 r.at_], u.oneCell' = true := by intro u hu; simp at hu; rcases hu with rfl | rfl | rfl | rfl <;> rfl
            have e1' : recs.length + 1 ≤ maxLen := by unfold maxLen; omega
            have e2' : (recs.length + 1) * 64 ≤ 140737488355328 := by omega
            have sz' : w.heap.size ≤ ((W0.alloc (.cells #[.int .i64 r.type, .slice D r.data.length dc, .slice C r.cuts.length cc, .int .i64 r.at_] 52)).drew).heap.size := by have := hbN.size; omega
            have HXL := Lib.hid hxl
            have HXN := Lib.hid hxn
            clear hxl hxn
            go_region_law (
              (refine step_app recsRowB rfl (.tmp 30) (.tmp 32) rfl rfl rfl hq' hr' h1' e1' e2' sz' ?_
               intro v2 w2 o2 g2 b2_
               obtain ⟨A2, c2, rfl, _, _, _⟩ := own_form o2
               have K2 : Keep (Mine (.slice Ao recs.length oc)) W0 w2 := (hKN.mono fun _ _ h => h.elim).trans (Keep.of_grew g2 (S := Mine (.slice Ao recs.length oc)) fun _ h => h.symm) fun _ _ h => h
               have how := K2.own ho fun i hi e => q3 i hi e
               have y0 : w2.cell? ⟨g, done.length * 2 + 1, none⟩ = some (.slice Ao recs.length oc) := by
                 have := how.cells (g := g) rfl (done.length * 2 + 1) (.slice Ao recs.length oc) HXL.out
                 rwa [addr_zero] at this
               have y1 : w2.frozen? ⟨g, done.length * 2 + 1, none⟩ = false := own_frozen how rfl _))
            all_goals
              have hN9 := S9.appended hR1 hR2 hKN g2 hrf o2
              obtain ⟨hS9, hE9⟩ := S9.stored (u := undef) (m := recs.length + 1) hN9 hO2 ho HXN.out rfl
              have hO3 := S9.fin hS9 hS1 hS2
              have hbf : Below w.heap.size w (w2.setCell ⟨g, done.length * 2 + 1, none⟩ (.slice A2 (recs.length + 1) c2)) := hb0.trans (hS9.keep.below hs2 fun i hi e => by
                rcases e with e | e
                · have := (q1 i e).1; omega
                · have := (q2 i e).1; omega)
              clear hN9 hS9 hE9 K2 how y0 y1 o2 g2 b2_ hq' hk' hr' hbN hKN hO2 ho hq hrf hrw hbx
              go_wp2
              go_roundw
              case rel => exact ⟨k + 1, by omega, by go_num, hbf, .inr ⟨done, kind, b, recs ++ [r], _, rfl, rfl, hO3, h8, by simp; omega, HF.out⟩⟩
              case measure => simp [intOf]; omega
    · have hdr : L.drop k = [] := List.drop_eq_nil_of_le (by omega)
      have hkn' : ¬ (k : Int) < (n : Int) := by omega
      rcases hst with ⟨done, b, rfl, rfl, hO, h9, HE⟩ | ⟨done, kind, b, recs, vo, rfl, rfl, hO, h8, hrl, HE⟩
      · rw [hdr] at HE
        have HF := Lib.hid (show splitM [] none L = (done, 0, 0) from HE)
        clear HE
        go_wp2
        go_ret3
        rw [HF.out]
        exact ⟨_, rfl, hO, hbel⟩
      · rw [hdr] at HE
        have HF := Lib.hid (show splitM [] none L = ([], b, 5) from HE)
        clear HE
        go_wp2
        go_ret3
        rw [HF.out]
        exact ⟨_, rfl, OwnF.nil _ _ _ _ _, hbel⟩
end Go.Proofs.Ytifcdleibjnknaa
