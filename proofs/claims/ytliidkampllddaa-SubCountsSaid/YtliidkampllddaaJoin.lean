/- sub.Join by its contract. Conditions: the substreams read as such; each has fewer than a million records. -/
import Derived.Test.YtliidkampllddaaPut
namespace Go.Proofs.Ytliidkampllddaa
open Go.RowKit

theorem RowF.stream {w : World} {B n k : Nat} {A : Option Addr} {L : List StreamM} {s : StreamM} (h : RowF streamForm w (· < B) A n L) (hs : L[k]? = some s) :
    ∃ a A' c', A = some a ∧ (a.add (k * 2)).block < B ∧ w.cell? (a.add (k * 2)) = some (.int .i64 s.kind) ∧ w.cell? ⟨(a.add (k * 2)).block, (a.add (k * 2)).off + 1, none⟩ = some (.slice A' s.recs.length c') ∧ s.recs.length ≤ c' ∧
      RecsRd w B A' s.recs.length s.recs := by
  have hk : k < L.length := (List.getElem?_eq_some_iff.1 hs).1
  obtain ⟨a, rfl, hb, hc⟩ := h.at_ (by have := h.len; omega)
  obtain ⟨cs, ⟨A', c', rfl, hc', hr⟩, hcell⟩ := hc k s hs
  have k0 := hcell 0 _ rfl
  have k1 := hcell 1 _ rfl
  refine ⟨a, A', c', rfl, by rw [add_block]; exact hb, k0, ?_, hc', hr.recs⟩
  rw [show streamForm.k = 2 from rfl, ← add_add] at k1
  exact k1

def joinGo : List StreamM → List RecM × Int
  | [] => ([], 0)
  | s :: l => if checkS s = 0 then (if (joinGo l).2 = 0 then (putSM s ++ (joinGo l).1, 0) else ([], (joinGo l).2)) else ([], checkS s)

def joinM (L : List StreamM) : List RecM × Int := if 9 < L.length then ([], 4) else joinGo L

theorem joinGo_none {l : List StreamM} (h : (joinGo l).2 ≠ 0) : (joinGo l).1 = [] := by
  cases l with
  | nil => rfl
  | cons r l =>
    unfold joinGo at h ⊢
    split
    · split
      · rename_i h1 h2; rw [if_pos h1, if_pos h2] at h; exact absurd rfl h
      · rfl
    · rfl

theorem joinGo_start (L : List StreamM) : joinGo L = if (joinGo (L.drop 0)).2 = 0 then ([] ++ (joinGo (L.drop 0)).1, 0) else ([], (joinGo (L.drop 0)).2) := by
  rw [List.drop_zero]
  split
  · rename_i h
    rw [List.nil_append, ← h]
  · rename_i h
    rw [← joinGo_none h]

theorem joinGo_step {L l : List StreamM} {acc : List RecM} {r : StreamM} (h : joinGo L = if (joinGo (r :: l)).2 = 0 then (acc ++ (joinGo (r :: l)).1, 0) else ([], (joinGo (r :: l)).2)) (hr : checkS r = 0) :
    joinGo L = if (joinGo l).2 = 0 then ((acc ++ putSM r) ++ (joinGo l).1, 0) else ([], (joinGo l).2) := by
  rw [h]
  simp only [joinGo, hr, if_true]
  by_cases h2 : (joinGo l).2 = 0 <;> simp [h2]

theorem joinGo_stop {L l : List StreamM} {acc : List RecM} {r : StreamM} (h : joinGo L = if (joinGo (r :: l)).2 = 0 then (acc ++ (joinGo (r :: l)).1, 0) else ([], (joinGo (r :: l)).2)) (hr : checkS r ≠ 0) :
    joinGo L = ([], checkS r) := by
  rw [h]
  simp [joinGo, hr]

theorem checkS_good {s : StreamM} (h : checkS s = 0) : 0 ≤ s.kind ∧ s.kind < 65536 ∧ s.recs.any bndR = false := by
  unfold checkS at h
  split at h
  · cases h
  · split at h
    · cases h
    · rename_i h1 h2
      refine ⟨by omega, by omega, by simpa using h2⟩

def Small (s : StreamM) : Prop := s.recs.length ≤ 1000000 ∧ ∀ r ∈ s.recs, Wide r

set_option maxHeartbeats 2000000 in
theorem join_any {w : World} {B n c : Nat} {A : Option Addr} {L : List StreamM} (h : RowF streamForm w (· < B) A n L) (hB : B ≤ w.heap.size) (hL : ∀ s ∈ L, Small s) :
    Calls Try.prog 12 #[.slice A n c] w fun e w' => ∃ v', e = .returned (.tuple #[v', .int .i64 (joinM L).2]) ∧ OwnF recForm w' (But w' (Mine v')) w.heap.size 49 v' (joinM L).1 ∧ Below w.heap.size w w' := by
  have hl := h.len
  by_cases h9 : 9 < n
  · have h9' : (9 : Int) < (n : Int) := by omega
    have HF := Lib.hid (show joinM L = ([], 4) by rw [joinM, if_pos (by omega)])
    clear hl
    go_enter Try.func12, Try.ntmps12
    go_wp2
    go_ret2
    rw [HF.out]
    exact ⟨_, rfl, OwnF.nil _ _ _ _ _, Below.refl _ _⟩
  have h9' : ¬ (9 : Int) < (n : Int) := by omega
  have HM := Lib.hid (show joinM L = joinGo L by rw [joinM, if_neg (by omega)])
  have Hl := Lib.hid hl
  clear hl
  go_enter Try.func12, Try.ntmps12
  go_wp2
  go_loopw [4, 13] (fun v i wr => ∃ (k : Nat) (acc : List RecM), i = .int .i64 k ∧ k ≤ n ∧ acc.length ≤ 1000002 * k ∧ OwnF recForm wr (But wr (Mine v)) w.heap.size 49 v acc ∧ Below w.heap.size w wr ∧
      Hid (joinGo L = if (joinGo (L.drop k)).2 = 0 then (acc ++ (joinGo (L.drop k)).1, 0) else ([], (joinGo (L.drop k)).2))) (fun _ i _ => n - (intOf i).toNat)
  case atStart => exact ⟨0, [], rfl, by omega, by simp, OwnF.nil _ _ _ _ _, Below.refl _ _, Lib.hid (joinGo_start L)⟩
  case round =>
    obtain ⟨k, acc, rfl, hk, hm, ho, hbel, HE⟩ := hrel
    by_cases hkn : k < n
    · have hkl : k < L.length := by have := Hl.out; omega
      obtain ⟨s, hs⟩ : ∃ s, L[k]? = some s := ⟨_, List.getElem?_eq_getElem hkl⟩
      have hdr : L.drop k = s :: L.drop (k + 1) := by
        rw [List.drop_eq_getElem_cons hkl]
        rw [List.getElem?_eq_getElem hkl] at hs
        injection hs with hs
        rw [hs]
      obtain ⟨hsz, hwide⟩ := hL s (List.mem_of_getElem? hs)
      obtain ⟨a, A', c', rfl, hab, c0, c1, hcc, hr⟩ := (h.below hbel hB).stream hs
      obtain ⟨kind, R⟩ := s
      simp only at *
      have HS := Lib.hid hs
      rw [hdr] at HE
      clear hs hdr
      have hkn' : (k : Int) < (n : Int) := by omega
      have hs0 := hbel.size
      have hal : ∀ o, Below wr.heap.size wr (wr.alloc o) := fun o => (Below.refl _ _).alloc (Nat.le_refl _) o
      obtain ⟨Av, vc, rfl, _⟩ := ho.form
      by_cases hck : checkS ⟨kind, R⟩ = 0
      · obtain ⟨g0, g1, g2⟩ := checkS_good hck
        have HC := Lib.hid hck
        have HG := Lib.hid g2
        have hb : (checkS ⟨kind, R⟩ != 0) = false := by simp [hck]
        clear hck g2
        go_wp2_with fail
        refine (checkStream_any (hr.below (hal _) (by omega)) (by simp; omega) (by omega)).mono ?_
        rintro e w1 ⟨rfl, hb1⟩
        have k1 : Bk w1 wr.heap.size 41 #[.int .i64 kind, .slice A' R.length c'] := (Bk.new wr _ _).below hb1 (by simp)
        have d0 : w1.cell? ⟨wr.heap.size, 0, none⟩ = some (.int .i64 kind) := k1.cell 0
        have d1 : w1.cell? ⟨wr.heap.size, 1, none⟩ = some (.slice A' R.length c') := k1.cell 1
        have hb2 : Below wr.heap.size wr w1 := (hal _).trans (hb1.mono (by simp))
        have o1 : OwnF recForm w1 (But w1 (Mine (.slice Av acc.length vc))) w.heap.size 49 (.slice Av acc.length vc) acc :=
          ho.keep (T := fun i => wr.heap.size ≤ i) (Keep.of_below hb2 fun i _ h => h) (fun i hi h => by have := (ho.lt i hi).2; omega) (below_move hb2 (Nat.le_refl _))
        have hs1 := hb2.size
        have hr1 := hr.below hb2 (by omega)
        clear c0 c1 k1 hb1
        go_wp2_with fail
        refine (putStream_any o1 (by omega) hr1 hB ⟨g0, g1⟩ hsz (by omega) hwide).mono ?_
        rintro e w2 ⟨v2, rfl, o2, b2_⟩
        have HE2 := Lib.hid (joinGo_step HE.out HC.out)
        have b3 : Below w.heap.size w w2 := (hbel.trans (hb2.mono hs0)).trans b2_
        have hlen : (acc ++ putSM ⟨kind, R⟩).length ≤ 1000002 * (k + 1) := by simp [putSM]; omega
        clear HE d0 d1 o1 ho hr hr1
        go_wp2
        go_roundw
        case rel => exact ⟨k + 1, _, by go_num, by omega, hlen, o2, b3, HE2⟩
        case measure => simp [intOf]; omega
      · have hb : (checkS ⟨kind, R⟩ != 0) = true := by simp [hck]
        have HE2 := Lib.hid (joinGo_stop HE.out hck)
        clear HE hck
        go_wp2_with fail
        refine (checkStream_any (hr.below (hal _) (by omega)) (by simp; omega) (by omega)).mono ?_
        rintro e w1 ⟨rfl, hb1⟩
        have hb2 : Below wr.heap.size wr w1 := (hal _).trans (hb1.mono (by simp))
        have k1 : Bk w1 wr.heap.size 41 #[.int .i64 kind, .slice A' R.length c'] := (Bk.new wr _ _).below hb1 (by simp)
        clear c0 c1
        go_wp2
        go_ret2
        rw [HM.out, HE2.out]
        exact ⟨_, rfl, OwnF.nil _ _ _ _ _, hbel.trans (hb2.mono hs0)⟩
    · have hdr : L.drop k = [] := List.drop_eq_nil_of_le (by have := Hl.out; omega)
      rw [hdr] at HE
      have hfin : joinGo L = (acc, 0) := by rw [HE.out]; simp [joinGo]
      have HF := Lib.hid hfin
      clear HE hdr hfin
      go_wp2
      go_ret2
      rw [HM.out, HF.out]
      exact ⟨_, rfl, ho, hbel⟩
end Go.Proofs.Ytliidkampllddaa
