/- rec.Write by its contract. Conditions: the records read as such; there are few of them. -/
import Derived.Test.YtpjimppfgmemeaaWrite
namespace Go.Proofs.Ytpjimppfgmemeaa
open Go.RowKit

/-- At p a record lies that reads, below block B, as r. -/
structure RecAt (w : World) (B : Nat) (p : Addr) (r : RecM) (D : Option Addr) (dc : Nat) (C : Option Addr) (cc : Nat) : Prop where
  rd : RecRd w B r D dc C cc
  low : p.block < B
  c0 : w.cell? p = some (.int .i64 r.type)
  c1 : w.cell? ⟨p.block, p.off + 1, none⟩ = some (.slice D r.data.length dc)
  c2 : w.cell? ⟨p.block, p.off + 2, none⟩ = some (.slice C r.cuts.length cc)
  c3 : w.cell? ⟨p.block, p.off + 3, none⟩ = some (.int .i64 r.at_)

theorem RecAt.below {w w' : World} {B B' : Nat} {p : Addr} {r : RecM} {D : Option Addr} {dc : Nat} {C : Option Addr} {cc : Nat} (h : RecAt w B p r D dc C cc) (hb : Below B' w w') (hB : B ≤ B') : RecAt w' B p r D dc C cc := by
  have hb' := hb.mono hB
  exact ⟨h.rd.below hb', h.low, (hb'.cell (p := p) h.low).trans h.c0, (hb'.cell (p := ⟨p.block, p.off + 1, none⟩) h.low).trans h.c1, (hb'.cell (p := ⟨p.block, p.off + 2, none⟩) h.low).trans h.c2, (hb'.cell (p := ⟨p.block, p.off + 3, none⟩) h.low).trans h.c3⟩

/-- A row of records that reads, below block B, as L. -/
structure RecsRd (w : World) (B : Nat) (A : Option Addr) (n : Nat) (L : List RecM) : Prop where
  len : L.length = n
  at_ : 0 < n → ∃ a, A = some a ∧ a.block < B ∧ ∀ (i : Nat) (r : RecM), L[i]? = some r → ∃ D dc C cc, RecAt w B (a.add (i * 4)) r D dc C cc

theorem RecsRd.below {w w' : World} {B B' n : Nat} {A : Option Addr} {L : List RecM} (h : RecsRd w B A n L) (hb : Below B' w w') (hB : B ≤ B') : RecsRd w' B A n L := by
  refine ⟨h.len, fun hn => ?_⟩
  obtain ⟨a, ha, hl, hr⟩ := h.at_ hn
  refine ⟨a, ha, hl, fun i r hi => ?_⟩
  obtain ⟨D, dc, C, cc, hh⟩ := hr i r hi
  exact ⟨D, dc, C, cc, hh.below hb hB⟩

def writeM : List RecM → List UInt8 × Int
  | [] => ([], 0)
  | r :: l => if checkM r = 0 then (if (writeM l).2 = 0 then (putM r ++ (writeM l).1, 0) else ([], (writeM l).2)) else ([], checkM r)

theorem partsM_len (data : List UInt8) : ∀ (cuts : List Int) (q : Nat) (kind : Int), riseB q data.length cuts = true → q ≤ data.length →
    (partsM kind data q cuts).length = data.length - q + 4 * (cuts.length + 1)
  | [], q, kind, _, _ => by simp [partsM, partM_len]; omega
  | c :: r, q, kind, h, hq => by
    obtain ⟨h1, h2, h3⟩ := riseB_cons h
    obtain ⟨X, rfl⟩ := Int.eq_ofNat_of_zero_le (show 0 ≤ c by omega)
    have := partsM_len data r X 60 h3 (by omega)
    simp only [partsM, List.length_append, partM_len, List.length_take, List.length_drop, Int.toNat_natCast, this, List.length_cons]
    omega

theorem putM_len {r : RecM} (h : Good r) : (putM r).length ≤ 400000 := by
  unfold putM
  have h1 := partsM_len r.data r.cuts 0 r.type h.rise (by omega)
  have h2 := rise_len r.cuts 0 r.data.length h.rise (by omega)
  have h3 := h.len
  omega

theorem writeM_none {l : List RecM} (h : (writeM l).2 ≠ 0) : (writeM l).1 = [] := by
  cases l with
  | nil => rfl
  | cons r l =>
    unfold writeM at h ⊢
    split
    · split
      · rename_i h1 h2; rw [if_pos h1, if_pos h2] at h; exact absurd rfl h
      · rfl
    · rfl

theorem writeM_start (L : List RecM) : writeM L = if (writeM (L.drop 0)).2 = 0 then ([] ++ (writeM (L.drop 0)).1, 0) else ([], (writeM (L.drop 0)).2) := by
  rw [List.drop_zero]
  split
  · rename_i h
    rw [List.nil_append, ← h]
  · rename_i h
    rw [← writeM_none h]

theorem writeM_step {L l : List RecM} {acc : List UInt8} {r : RecM} (h : writeM L = if (writeM (r :: l)).2 = 0 then (acc ++ (writeM (r :: l)).1, 0) else ([], (writeM (r :: l)).2)) (hr : checkM r = 0) :
    writeM L = if (writeM l).2 = 0 then ((acc ++ putM r) ++ (writeM l).1, 0) else ([], (writeM l).2) := by
  rw [h]
  simp only [writeM, hr, if_true]
  by_cases h2 : (writeM l).2 = 0 <;> simp [h2]

theorem writeM_stop {L l : List RecM} {acc : List UInt8} {r : RecM} (h : writeM L = if (writeM (r :: l)).2 = 0 then (acc ++ (writeM (r :: l)).1, 0) else ([], (writeM (r :: l)).2)) (hr : checkM r ≠ 0) :
    writeM L = ([], checkM r) := by
  rw [h]
  simp [writeM, hr]

theorem write_any {w : World} {B n c : Nat} {A : Option Addr} {L : List RecM} (h : RecsRd w B A n L) (hB : B ≤ w.heap.size) (hn : n ≤ 40) :
    Calls Try.prog 15 #[.slice A n c] w fun e w' => ∃ v', e = .returned (.tuple #[v', .int .i64 (writeM L).2]) ∧ w'.ownsRow w.heap.size 5 1 v' (writeM L).1.length ((writeM L).1.map bv) ∧ Below w.heap.size w w' := by
  go_enter Try.func15, Try.ntmps15
  go_wp2
  go_loopw [4, 10] (fun v i wr => ∃ (k : Nat) (acc : List UInt8), i = .int .i64 k ∧ k ≤ n ∧ acc.length ≤ 400000 * k ∧ wr.ownsRow w.heap.size 5 1 v acc.length (acc.map bv) ∧ Below w.heap.size w wr ∧
      Hid (writeM L = if (writeM (L.drop k)).2 = 0 then (acc ++ (writeM (L.drop k)).1, 0) else ([], (writeM (L.drop k)).2))) (fun _ i _ => n - (intOf i).toNat)
  case atStart => exact ⟨0, [], rfl, by omega, by simp, World.ownsRow_nil _ _ _ _, Below.refl _ _, Lib.hid (writeM_start L)⟩
  case round =>
    obtain ⟨k, acc, rfl, hk, hm, ho, hbel, HE⟩ := hrel
    by_cases hkn : k < n
    · obtain ⟨a, rfl, hab, hall⟩ := h.at_ (by omega)
      have hkl : k < L.length := by have := h.len; omega
      obtain ⟨D, dc, C, cc, hr⟩ := hall k L[k] (List.getElem?_eq_getElem hkl)
      clear hall
      have hr' := hr.below hbel hB
      obtain ⟨r, hrr⟩ : ∃ r, r = L[k] := ⟨_, rfl⟩
      rw [← hrr] at hr hr'
      have hdr : L.drop k = r :: L.drop (k + 1) := by rw [hrr]; exact List.drop_eq_getElem_cons hkl
      rw [hdr] at HE
      clear hrr hdr
      have c0 := hr'.c0
      have c1 := hr'.c1
      have c2 := hr'.c2
      have c3 := hr'.c3
      have hkn' : (k : Int) < (n : Int) := by omega
      have hs := hbel.size
      have hal : ∀ o, Below w.heap.size w (wr.alloc o) := fun o => hbel.alloc hs o
      by_cases hck : checkM r = 0
      · have HC := Lib.hid hck
        have hb : (checkM r != 0) = false := by simp [hck]
        clear hck
        go_wp2_with fail
        go_step3
        go_wp2_with fail
        refine (check_any (hr.rd.below ((hal _).mono hB)) (by simp; omega)).mono ?_
        rintro e w1 ⟨rfl, hb1⟩
        have k1 : Bk w1 wr.heap.size 30 #[.int .i64 r.type, .slice D r.data.length dc, .slice C r.cuts.length cc, .int .i64 r.at_] := (Bk.new wr _ _).below hb1 (by simp)
        have d0 : w1.cell? ⟨wr.heap.size, 0, none⟩ = some (.int .i64 r.type) := k1.cell 0
        have d1 : w1.cell? ⟨wr.heap.size, 1, none⟩ = some (.slice D r.data.length dc) := k1.cell 1
        have d2 : w1.cell? ⟨wr.heap.size, 2, none⟩ = some (.slice C r.cuts.length cc) := k1.cell 2
        have d3 : w1.cell? ⟨wr.heap.size, 3, none⟩ = some (.int .i64 r.at_) := k1.cell 3
        have hb2 : Below wr.heap.size wr w1 := ((Below.refl _ _).alloc (Nat.le_refl _) _).trans (hb1.mono (by simp))
        have o1 : w1.ownsRow w.heap.size 5 1 u4 acc.length (acc.map bv) := ho.kept ⟨hb2.os, hb2.tape, hb2.output, hb2.size, fun i hi _ => hb2.block i hi⟩ (row := none) (by cases u4.ownBlock <;> simp)
        have hs1 := hb2.size
        clear c0 c1 c2 c3
        go_wp2_with fail
        refine (putRec_any o1 (by omega) (by omega) (hr'.rd.below (hb2.mono (by omega))) hB (checkM_good HC.out)).mono ?_
        rintro e w2 ⟨v2, rfl, o2, g2⟩
        have HE2 := Lib.hid (writeM_step HE.out HC.out)
        have hl := putM_len (checkM_good HC.out)
        have hb3 := g2.below o1 (by omega)
        clear HE d0 d1 d2 d3
        go_wp2
        go_step3
        go_wp2
        rw [Exit.noGoto_normal]
        go_wp2
        go_roundw
        case rel => exact ⟨k + 1, _, by go_num, by omega, by rw [List.length_append]; omega, o2, (hbel.trans (hb2.mono hs)).trans hb3, HE2⟩
        case measure => simp [intOf]; omega
      · have hb : (checkM r != 0) = true := by simp [hck]
        have HE2 := Lib.hid (writeM_stop HE.out hck)
        clear HE hck
        go_wp2_with fail
        refine wp_scope_fwd 0 rfl ?_
        go_wp2_with fail
        refine (check_any (hr.rd.below ((hal _).mono hB)) (by simp; omega)).mono ?_
        rintro e w1 ⟨rfl, hb1⟩
        have hb2 : Below wr.heap.size wr w1 := ((Below.refl _ _).alloc (Nat.le_refl _) _).trans (hb1.mono (by simp))
        clear c0 c1 c2 c3
        go_wp2
        go_step3
        refine ⟨rfl, ?_⟩
        show Code.wp _ _ _ _ _

        go_wp2
        rw [Exit.noGoto_ret]
        go_wp2
        go_ret2
        rw [HE2.out]
        exact ⟨_, rfl, World.ownsRow_nil _ _ _ _, hbel.trans (hb2.mono hs)⟩
    · have hdr : L.drop k = [] := List.drop_eq_nil_of_le (by have := h.len; omega)
      rw [hdr] at HE
      have hfin : writeM L = (acc, 0) := by rw [HE.out]; simp [writeM]
      have HF := Lib.hid hfin
      clear HE hdr hfin
      go_wp2
      go_ret2
      rw [HF.out]
      exact ⟨_, rfl, ho, hbel⟩
end Go.Proofs.Ytpjimppfgmemeaa
