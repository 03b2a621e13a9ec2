/- Lists alone: what is parted into substreams is joined as it was; what is joined is parted as it was. No program; no condition. -/
import Derived.Test.YtifcdleibjnknaaJoin
import Derived.Test.YtifcdleibjnknaaSplit0
namespace Go.Proofs.Ytifcdleibjnknaa
open Go.RowKit

/-- A record without its place. -/
def key3 (r : RecM) : Int × List UInt8 × List Int := (r.type, r.data, r.cuts)

theorem le2_bytes (x y : UInt8) : b2 (le2 x y) = [x, y] := by
  have hx := x.toNat_lt
  have hy := y.toNat_lt
  have h1 : by8 (le2 x y) = x := by
    unfold by8 le2
    rw [show (((x.toNat + 256 * y.toNat : Nat) : Int) % 256).toNat = x.toNat by omega]
    exact UInt8.ofNat_toNat
  have h2 : by8 (le2 x y / 256) = y := by
    unfold by8 le2
    rw [show (((x.toNat + 256 * y.toNat : Nat) : Int) / 256 % 256).toNat = y.toNat by omega]
    exact UInt8.ofNat_toNat
  rw [b2, h1, h2]

theorem kind_bytes {k : Int} (h0 : 0 ≤ k) (h1 : k < 65536) : kindOf (b2 k) = k := by
  show le2 (by8 k) (by8 (k / 256)) = k
  unfold le2 by8
  rw [UInt8.toNat_ofNat', UInt8.toNat_ofNat', Nat.mod_eq_of_lt (by omega), Nat.mod_eq_of_lt (by omega)]
  omega

theorem outN_zero {t : Int} {dn cn n : Nat} (h : outN t dn cn n = 0) : t = 2057 ∧ n < 9 ∧ dn = 2 ∧ cn = 0 := by
  unfold outN at h
  split at h
  · cases h
  · split at h
    · cases h
    · split at h
      · cases h
      · rename_i h1 h2 h3
        exact ⟨by omega, by omega, by omega, by omega⟩
theorem inN_zero {t : Int} {dn cn : Nat} (h : inN t dn cn = 0) : t ≠ 2057 ∧ (t = 10 → dn = 0 ∧ cn = 0) := by
  unfold inN at h
  split at h
  · cases h
  · split at h
    · cases h
    · rename_i h1 h2
      exact ⟨h1, fun e => by
        rcases Nat.eq_zero_or_pos dn with hd | hd
        · rcases Nat.eq_zero_or_pos cn with hc | hc
          · exact ⟨hd, hc⟩
          · exact absurd ⟨e, .inr hc⟩ h2
        · exact absurd ⟨e, .inl hd⟩ h2⟩

def zeroAt (s : StreamM) : StreamM := ⟨s.kind, s.recs.map at0⟩

theorem checkS_mk {k : Int} {R : List RecM} (h0 : 0 ≤ k) (h1 : k < 65536) (h : R.any bndR = false) : checkS ⟨k, R⟩ = 0 := by
  unfold checkS
  rw [if_neg (by simp; omega), if_neg (by simp [h])]

theorem split_joined : ∀ (L : List RecM) (done : List StreamM) (S : List StreamM),
    (splitM done none L = (S, 0, 0) → ∃ T, S = done ++ T ∧ (joinGo T).2 = 0 ∧ (joinGo T).1.map key3 = L.map key3 ∧ (done.length ≤ 9 → S.length ≤ 9) ∧ ∀ s ∈ T, s.recs.length ≤ L.length ∧ ∀ r ∈ s.recs, r ∈ L) ∧
    (∀ s b, splitM done (some (s, b)) L = (S, 0, 0) → ∃ R T, S = done ++ ⟨s.kind, s.recs ++ R⟩ :: T ∧ R.any bndR = false ∧ (joinGo T).2 = 0 ∧ R.map key3 ++ key3 eofR :: (joinGo T).1.map key3 = L.map key3 ∧ (done.length ≤ 8 → S.length ≤ 9) ∧ R.length ≤ L.length ∧ (∀ r ∈ R, r ∈ L) ∧
      ∀ s ∈ T, s.recs.length ≤ L.length ∧ ∀ r ∈ s.recs, r ∈ L)
  | [], done, S => by
    refine ⟨fun h => ?_, fun s b h => ?_⟩
    · have e : done = S := congrArg Prod.fst h
      subst e
      exact ⟨[], by simp, rfl, rfl, fun h => h, by simp⟩
    · exact absurd (congrArg (·.2.2) h) (by simp [splitM])
  | r :: l, done, S => by
    refine ⟨fun h => ?_, fun s b h => ?_⟩
    · rw [splitM] at h
      by_cases hz : outN r.type r.data.length r.cuts.length done.length = 0
      · rw [if_pos hz] at h
        obtain ⟨h1, h2, h3, h4⟩ := outN_zero hz
        obtain ⟨t, data, cuts, at_⟩ := r
        simp only at h1 h3 h4
        match data, h3, cuts, h4 with
        | [x, y], _, [], _ =>
          subst h1
          obtain ⟨R, T, e1, e2, e3, e4, e5, e6, e8, e7⟩ := (split_joined l done S).2 _ _ h
          have hk : kindOf [x, y] = le2 x y := rfl
          have hb := le2_bd x y
          refine ⟨⟨le2 x y, R⟩ :: T, by rw [e1, hk]; rfl, ?_, ?_, fun h => e5 (by omega), ?_⟩
          · rw [joinGo, if_pos (checkS_mk hb.1 hb.2 e2), if_pos e3]
          · rw [joinGo, if_pos (checkS_mk hb.1 hb.2 e2), if_pos e3]
            simp only [putSM, List.map_cons, List.map_append, List.cons_append, List.append_assoc, List.nil_append, List.map_map]
            rw [← e4, show (R.map (key3 ∘ at0)) = R.map key3 from List.map_congr_left fun r _ => rfl]
            rw [show key3 (bofR (le2 x y)) = key3 ⟨2057, [x, y], [], at_⟩ by simp [key3, bofR, le2_bytes]]
          · intro s hs
            rcases List.mem_cons.1 hs with rfl | hs
            · exact ⟨by simp; omega, fun r hr => List.mem_cons_of_mem _ (e8 r hr)⟩
            · exact ⟨by have := (e7 s hs).1; simp; omega, fun r hr => List.mem_cons_of_mem _ ((e7 s hs).2 r hr)⟩
      · rw [if_neg hz] at h
        exact absurd (congrArg (·.2.2) h) hz
    · rw [splitM] at h
      by_cases hz : inN r.type r.data.length r.cuts.length = 0
      · rw [if_pos hz] at h
        obtain ⟨h1, h2⟩ := inN_zero hz
        by_cases h10 : r.type = 10
        · rw [if_pos h10] at h
          obtain ⟨hd, hc⟩ := h2 h10
          obtain ⟨T, e1, e2, e3, e4, e5⟩ := (split_joined l (done ++ [s]) S).1 h
          refine ⟨[], T, by rw [e1]; simp, rfl, e2, ?_, fun h => e4 (by simp; omega), by simp, by simp, fun s hs => ⟨by have := (e5 s hs).1; simp; omega, fun r hr => List.mem_cons_of_mem _ ((e5 s hs).2 r hr)⟩⟩
          rw [e3]
          have : key3 eofR = key3 r := by
            simp only [key3, eofR, h10, List.eq_nil_of_length_eq_zero hd, List.eq_nil_of_length_eq_zero hc]
          rw [this]
          rfl
        · rw [if_neg h10] at h
          obtain ⟨R, T, e1, e2, e3, e4, e5, e6, e8, e7⟩ := (split_joined l done S).2 _ _ h
          refine ⟨r :: R, T, by rw [e1]; simp, ?_, e3, ?_, e5, by simp; omega, ?_, fun s hs => ⟨by have := (e7 s hs).1; simp; omega, fun r hr => List.mem_cons_of_mem _ ((e7 s hs).2 r hr)⟩⟩
          · simp [bndR, bndB, h1, h10]
            simpa [bndR, bndB] using e2
          · rw [List.map_cons, List.map_cons, ← e4]
            rfl
          · intro q hq
            rcases List.mem_cons.1 hq with rfl | hq
            · exact List.mem_cons_self ..
            · exact List.mem_cons_of_mem _ (e8 q hq)
      · rw [if_neg hz] at h
        exact absurd (congrArg (·.2.2) h) hz

theorem inside_all {done : List StreamM} {k b : Int} : ∀ (R acc J : List RecM), R.any bndR = false → splitM done (some (⟨k, acc⟩, b)) (R.map at0 ++ eofR :: J) = splitM (done ++ [⟨k, acc ++ R.map at0⟩]) none J
  | [], acc, J, _ => by
    show splitM done (some (⟨k, acc⟩, b)) (eofR :: J) = _
    rw [splitM, if_pos (by decide), if_pos (show eofR.type = 10 from rfl)]
    simp
  | r :: R, acc, J, h => by
    simp only [List.any_cons, Bool.or_eq_false_iff] at h
    have hb : r.type ≠ 2057 ∧ r.type ≠ 10 := by
      have := h.1
      simp [bndR, bndB] at this
      exact this
    show splitM done (some (⟨k, acc⟩, b)) (at0 r :: (R.map at0 ++ eofR :: J)) = _
    rw [splitM, if_pos (by unfold inN; rw [if_neg (show ¬ (at0 r).type = 2057 from hb.1), if_neg (fun e => hb.2 e.1)]), if_neg (show ¬ (at0 r).type = 10 from hb.2), inside_all R (acc ++ [at0 r]) J h.2]
    simp

theorem joined_split : ∀ (L : List StreamM) (done : List StreamM), (joinGo L).2 = 0 → done.length + L.length ≤ 9 → splitM done none (joinGo L).1 = (done ++ L.map zeroAt, 0, 0)
  | [], done, _, _ => by simp [joinGo, splitM]
  | s :: L, done, h, hn => by
    have hc : checkS s = 0 := by
      unfold joinGo at h
      split at h
      · assumption
      · rename_i hc; exact absurd h hc
    have h2 : (joinGo L).2 = 0 := by
      unfold joinGo at h
      rw [if_pos hc] at h
      split at h
      · assumption
      · rename_i h2; exact absurd h h2
    obtain ⟨g0, g1, g2⟩ := checkS_good hc
    rw [joinGo, if_pos hc, if_pos h2]
    show splitM done none (bofR s.kind :: ((s.recs.map at0 ++ [eofR]) ++ (joinGo L).1)) = _
    simp only [List.length_cons] at hn
    rw [splitM, if_pos (show outN (bofR s.kind).type (bofR s.kind).data.length (bofR s.kind).cuts.length done.length = 0 by show outN 2057 2 0 done.length = 0; unfold outN; rw [if_neg (by decide), if_neg (by omega), if_neg (by decide)]), List.append_assoc]
    show splitM done (some (⟨kindOf (b2 s.kind), []⟩, 0)) (s.recs.map at0 ++ eofR :: (joinGo L).1) = _
    rw [kind_bytes g0 g1, inside_all s.recs [] _ g2, joined_split L _ h2 (by simp; omega)]
    simp [zeroAt]
theorem split_ends : ∀ (L : List RecM) (done : List StreamM) (o : Option (StreamM × Int)), ((splitM done o L).2.2 = 0 → (splitM done o L).2.1 = 0) ∧ ((splitM done o L).2.2 ≠ 0 → (splitM done o L).1 = [])
  | [], done, none => ⟨fun _ => rfl, fun h => absurd rfl h⟩
  | [], done, some (s, b) => ⟨fun h => by simp [splitM] at h, fun _ => rfl⟩
  | r :: l, done, none => by
    rw [splitM]
    split
    · exact split_ends l _ _
    · rename_i hz; exact ⟨fun h => absurd h hz, fun _ => rfl⟩
  | r :: l, done, some (s, b) => by
    rw [splitM]
    split
    · split
      · exact split_ends l _ _
      · exact split_ends l _ _
    · rename_i hz; exact ⟨fun h => absurd h hz, fun _ => rfl⟩
end Go.Proofs.Ytifcdleibjnknaa
