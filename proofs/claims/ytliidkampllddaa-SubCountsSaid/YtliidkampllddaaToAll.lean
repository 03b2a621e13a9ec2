/- cashbooklaw1.ToAll by its contract: each record copied, in memory of its own. Condition: no more than a thousand million records. -/
import Derived.Test.YtliidkampllddaaTo
namespace Go.Proofs.Ytliidkampllddaa
open Go.RowKit

/-- Own rows are there to read, however long. -/
theorem RecsOwn.readL {w : World} {base : Nat} {v : Value} {S : List Item} (h : RecsOwn w base v S) (hfit : ∀ x ∈ S, Fit x.r.type ∧ x.r.data.length ≤ 1000000000000000000 ∧ x.r.cuts.length ≤ 1000000000000000000) :
    ∃ A c, v = .slice A S.length c ∧ S.length ≤ c ∧ RecsRd w w.heap.size A S.length (S.map (·.r)) := by
  rcases h.row.2 with ⟨rfl, h0⟩ | ⟨g, cap, cur, rfl, hb, hg, hnc, hm, hs, ht⟩
  · have : S = [] := List.eq_nil_of_length_eq_zero h0
    subst this
    exact ⟨none, 0, rfl, Nat.le_refl _, rfl, fun h => absurd h (by simp)⟩
  · refine ⟨_, cap, rfl, hnc, by simp, fun hn => ⟨_, rfl, (Array.getElem?_eq_some_iff.1 hg).1, fun i r hr => ?_⟩⟩
    have hlt : i < S.length := by have := (List.getElem?_eq_some_iff.1 hr).1; simpa using this
    obtain ⟨x, hx⟩ : ∃ x, S[i]? = some x := ⟨_, List.getElem?_eq_getElem hlt⟩
    have hxr : x.r = r := by rw [List.getElem?_map, hx] at hr; simpa using hr
    subst hxr
    have hxm : x ∈ S := List.mem_of_getElem? hx
    obtain ⟨D, dc, hd, hdc, _, hdr⟩ := own_form (h.data x hxm)
    obtain ⟨C, cc, hc, hcc, _, hcr⟩ := own_form (h.cuts x hxm)
    obtain ⟨f0, f1, f2⟩ := hfit x hxm
    obtain ⟨e0, e1, e2, e3⟩ := rowOf_get hx
    have hcell := h.row.cells (g := g) rfl
    refine ⟨D, dc, C, cc, ⟨hdr, hcr, ⟨hdc, f1⟩, ⟨hcc, f2⟩, f0⟩, ?_, ?_, ?_, ?_, ?_⟩
    · rw [add_block]
      exact (Array.getElem?_eq_some_iff.1 hg).1
    all_goals rw [addr_zero]
    · have := hcell _ _ e0; rwa [addr_zero] at this
    · have := hcell _ _ e1; rw [addr_zero, hd] at this; exact this
    · have := hcell _ _ e2; rw [addr_zero, hc] at this; exact this
    · have := hcell _ _ e3; rwa [addr_zero] at this

def Wide (r : RecM) : Prop := r.data.length ≤ 140737488355328 ∧ r.cuts.length * 8 ≤ 140737488355328

set_option maxHeartbeats 2000000 in
theorem toAll_any {w : World} {B n c : Nat} {A : Option Addr} {L : List RecM} (h : RecsRd w B A n L) (hB : B ≤ w.heap.size) (hn : n ≤ 1000000000) (hL : ∀ r ∈ L, Wide r) :
    Calls Try.prog 9 #[.slice A n c] w fun e w' => ∃ v' S, e = .returned v' ∧ RecsOwn w' w.heap.size v' S ∧ S.map (·.r) = L ∧ Below w.heap.size w w' := by
  go_enter Try.func9, Try.ntmps9
  go_wp2
  go_loopw [3, 4] (fun v i wr => ∃ (k : Nat) (S : List Item), i = .int .i64 k ∧ k ≤ n ∧ Hid (S.length = k) ∧ RecsOwn wr w.heap.size v S ∧ Below w.heap.size w wr ∧ Hid (S.map (·.r) = L.take k)) (fun _ i _ => n - (intOf i).toNat)
  case atStart => exact ⟨0, [], rfl, by omega, Lib.hid rfl, RecsOwn.nil _ _, Below.refl _ _, Lib.hid rfl⟩
  case round =>
    obtain ⟨k, S, rfl, hk, HM, ho, hbel, HE⟩ := hrel
    by_cases hkn : k < n
    · obtain ⟨a, rfl, hab, hall⟩ := h.at_ (by omega)
      have hkl : k < L.length := by have := h.len; omega
      obtain ⟨D, dc, C, cc, hr⟩ := hall k L[k] (List.getElem?_eq_getElem hkl)
      clear hall
      have hr' := hr.below hbel hB
      obtain ⟨r, hrr⟩ : ∃ r, r = L[k] := ⟨_, rfl⟩
      have hwd := hL L[k] (List.getElem_mem hkl)
      rw [← hrr] at hr hr' hwd
      have HT : Hid (L.take (k + 1) = L.take k ++ [r]) := Lib.hid (by rw [hrr]; exact (List.take_append_getElem hkl).symm)
      clear hrr
      have c0 := hr'.c0
      have c1 := hr'.c1
      have c2 := hr'.c2
      have c3 := hr'.c3
      have hkn' : (k : Int) < (n : Int) := by omega
      have hs := hbel.size
      obtain ⟨Av, vc, rfl, _, _, _⟩ := own_form ho.row
      go_wp2_with fail
      refine (to_any hr'.rd.data hr'.rd.cuts (by omega) hwd.1 hwd.2).mono ?_
      rintro e w1 ⟨dv, cv, rfl, od, oc, hb1⟩
      obtain ⟨Dv, dvc, rfl, _, _, _⟩ := own_form od
      obtain ⟨Cv, cvc, rfl, _, _, _⟩ := own_form oc
      have h1 := ho.below hb1
      have s1 := hb1.size
      clear c0 c1 c2 c3
      go_wp2_with (at_builtin; refine wpList_app recsRow rfl (.tmp 11) (.tmp 17) rfl rfl rfl (h1.row.alloc _) (Rd.fresh _ _ 4 1 _ rfl) ?_ ?_ ?_ ?_ ?_)
      · intro u hu; simp at hu; rcases hu with rfl | rfl | rfl | rfl <;> rfl
      · have := HM.out; unfold maxLen; omega
      · have := HM.out; omega
      · simp; omega
      · intro v2 w2 o2 g2 b2_
        have K2 := Keep.of_grew g2 (S := fun i => some i = (Value.slice Av S.length vc).ownBlock) fun _ h => h
        have K : Keep (fun i => some i = (Value.slice Av S.length vc).ownBlock) wr w2 :=
          ((Keep.of_below hb1 (S := fun i => some i = (Value.slice Av S.length vc).ownBlock) fun i hi h => by omega).alloc _).trans K2 fun i _ h => h
        have or1 : (w1.alloc (.cells #[.int .i64 r.type, .slice Dv r.data.length dvc, .slice Cv r.cuts.length cvc, .int .i64 r.at_] 49)).ownsRow w.heap.size 49 4 (.slice Av S.length vc) S.length (rowOf S) := h1.row.alloc _
        have od1 := od.alloc (.cells #[.int .i64 r.type, .slice Dv r.data.length dvc, .slice Cv r.cuts.length cvc, .int .i64 r.at_] 49)
        have oc1 := oc.alloc (.cells #[.int .i64 r.type, .slice Dv r.data.length dvc, .slice Cv r.cuts.length cvc, .int .i64 r.at_] 49)
        have od2 := K2.own od1 fun i hi e => own_own_ne od1 or1 (by decide) i hi e.symm
        have oc2 := K2.own oc1 fun i hi e => own_own_ne oc1 or1 (by decide) i hi e.symm
        have R2 := ho.snoc (x := ⟨r, .slice Dv r.data.length dvc, .slice Cv r.cuts.length cvc⟩) K (fun i _ e => e.symm) o2 (own_mono od2 hs) (own_mono oc2 hs) (fun i e => (od.lt i e).1) (fun i e => (oc.lt i e).1)
        have HE2 : Hid ((S ++ [(⟨r, .slice Dv r.data.length dvc, .slice Cv r.cuts.length cvc⟩ : Item)]).map (·.r) = L.take (k + 1)) := Lib.hid (by rw [HT.out, List.map_append, HE.out]; rfl)
        have hb3 : Below w.heap.size w w2 := (hbel.trans (hb1.mono hs)).trans (((Below.refl _ _).alloc (by omega) _).trans b2_)
        clear HE HT K K2 or1 od1 oc1 od2 oc2 o2 g2
        go_wp2
        go_roundw
        case rel => exact ⟨k + 1, _, by go_num, by omega, Lib.hid (by simp [HM.out]), R2, hb3, HE2⟩
        case measure => simp [intOf]; omega
    · have hkn' : ¬ (k : Int) < (n : Int) := by omega
      have hl := h.len
      have HE2 : S.map (·.r) = L := by rw [HE.out]; exact List.take_of_length_le (by omega)
      clear HE
      go_wp2
      go_ret
      exact ⟨_, rfl, S, ho, HE2, hbel⟩
end Go.Proofs.Ytliidkampllddaa
