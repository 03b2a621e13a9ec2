/- What is written is read as it was: plain lists, no program. Conditions: the records are such as Check takes. -/
import Derived.Test.YtpjimppfgmemeaaRead
namespace Go.Proofs.Ytpjimppfgmemeaa

theorem by8_toNat (k : Int) : ((by8 k).toNat : Int) = k % 256 := by
  have h := bv_by8 k
  unfold bv at h
  injection h

theorem le2_by8 {k : Int} (h0 : 0 ≤ k) (h1 : k < 65536) : le2 (by8 k) (by8 (k / 256)) = k := by
  unfold le2
  have e1 := by8_toNat k
  have e2 := by8_toNat (k / 256)
  omega

theorem firstM_part {kind : Int} {data rest : List UInt8} (h0 : 0 ≤ kind) (h1 : kind < 65536) (hd : data.length ≤ 224) : firstM (partM kind data ++ rest) = (kind, data, 0) := by
  have e : partM kind data ++ rest = by8 kind :: by8 (kind / 256) :: by8 data.length :: by8 ((data.length : Int) / 256) :: (data ++ rest) := by simp [partM, b2]
  rw [e]
  unfold firstM
  simp only
  rw [le2_by8 h0 h1, le2_by8 (by omega) (by omega), if_neg (by omega), if_neg (by rw [List.length_append]; omega), Int.toNat_natCast, List.take_left]

theorem readM_fuel : ∀ (f g : Nat) (L : List RecM) (a : Nat) (b : List UInt8), b.length < f → b.length < g → readM f L a b = readM g L a b
  | 0, _, _, _, _, h, _ => by omega
  | _, 0, _, _, _, _, h => by omega
  | f + 1, g + 1, L, a, b, hf, hg => by
    unfold readM
    by_cases hb : b = []
    · rw [if_pos hb, if_pos hb]
    rw [if_neg hb, if_neg hb]
    have hl : 0 < b.length := by cases b with | nil => exact absurd rfl hb | cons _ _ => simp
    have hlt : (b.drop (4 + (firstM b).2.1.length)).length < b.length := by rw [List.length_drop]; omega
    rw [readM_fuel f g _ _ _ (by omega) (by omega), readM_fuel f g (L ++ _) _ _ (by omega) (by omega)]

/-- Reading on: the records so far, where, the bytes that are left. -/
def onM (L : List RecM) (a : Nat) (b : List UInt8) : List RecM × Int × Int := readM (b.length + 1) L a b

theorem on_nil (L : List RecM) (a : Nat) : onM L a [] = (L, 0, 0) := rfl

theorem on_new {L : List RecM} {a : Nat} {kind : Int} {data rest : List UInt8} (h0 : 0 ≤ kind) (h1 : kind < 65536) (hd : data.length ≤ 224) (hk : kind ≠ 60) :
    onM L a (partM kind data ++ rest) = onM (L ++ [⟨kind, data, [], a⟩]) (a + (4 + data.length)) rest := by
  unfold onM
  rw [readM, if_neg (by simp [partM, b2]), firstM_part h0 h1 hd]
  simp only
  rw [if_neg (by simp), if_neg hk]
  have e : (partM kind data ++ rest).drop (4 + data.length) = rest := by rw [← partM_len kind data, List.drop_left]
  rw [e]
  exact readM_fuel _ _ _ _ _ (by rw [List.length_append, partM_len]; omega) (by omega)

theorem on_more {L : List RecM} {a : Nat} {r : RecM} {data rest : List UInt8} (hd : data.length ≤ 224) (hd0 : data.length ≠ 0) (hr : r.data.length ≠ 0) (hm : r.data.length + data.length ≤ 65536) :
    onM (L ++ [r]) a (partM 60 data ++ rest) = onM (L ++ [{ r with data := r.data ++ data, cuts := r.cuts ++ [(r.data.length : Int)] }]) (a + (4 + data.length)) rest := by
  have hl : (L ++ [r]).getLast? = some r := by simp
  have hcm : contM (L ++ [r]) data.length = 0 := by rw [contM_some hl, if_neg (by omega), if_neg (by omega)]
  unfold onM
  rw [readM, if_neg (by simp [partM, b2]), firstM_part (by omega) (by omega) hd]
  simp only
  rw [if_neg (by simp), if_pos trivial, hcm, if_neg (by omega)]
  have e : (partM 60 data ++ rest).drop (4 + data.length) = rest := by rw [← partM_len 60 data, List.drop_left]
  have e2 : extM (L ++ [r]) data = L ++ [{ r with data := r.data ++ data, cuts := r.cuts ++ [(r.data.length : Int)] }] := by
    unfold extM
    rw [hl]
    simp
  rw [e, e2]
  exact readM_fuel _ _ _ _ _ (by rw [List.length_append, partM_len]; omega) (by omega)

theorem take_more (data : List UInt8) {q c : Nat} (h : q ≤ c) : data.take q ++ (data.drop q).take (c - q) = data.take c := by
  have := List.take_append_drop q (data.take c)
  rw [List.take_take, Nat.min_eq_left h, List.drop_take] at this
  exact this

theorem on_parts (t : Int) (data rest : List UInt8) (at_ : Int) (L : List RecM) (hn : data.length ≤ 65536) : ∀ (cuts done : List Int) (q a : Nat), riseB q data.length cuts = true → shortB q data.length cuts → 0 < q → q < data.length →
    onM (L ++ [⟨t, data.take q, done, at_⟩]) a (partsM 60 data q cuts ++ rest) = onM (L ++ [⟨t, data, done ++ ((q : Int) :: cuts), at_⟩]) (a + (partsM 60 data q cuts).length) rest
  | [], done, q, a, _, hs, hq, hqn => by
    simp only [shortB] at hs
    have hl : (data.drop q).length = data.length - q := List.length_drop ..
    have ht : (data.take q).length = q := by rw [List.length_take]; omega
    simp only [partsM]
    rw [on_more (by omega) (by omega) (by simp only [ht]; omega) (by simp only [ht]; omega)]
    simp only [ht, List.take_append_drop, partM_len]
  | c :: r, done, q, a, hr, hs, hq, hqn => by
    obtain ⟨h1, h2, h3⟩ := riseB_cons hr
    obtain ⟨X, rfl⟩ := Int.eq_ofNat_of_zero_le (show 0 ≤ c by omega)
    simp only [shortB] at hs
    have hl : ((data.drop q).take (X - q)).length = X - q := by rw [List.length_take, List.length_drop]; omega
    have ht : (data.take q).length = q := by rw [List.length_take]; omega
    simp only [partsM, Int.toNat_natCast, List.append_assoc]
    rw [on_more (by omega) (by omega) (by simp only [ht]; omega) (by simp only [ht]; omega)]
    simp only [ht, take_more data (show q ≤ X by omega)]
    rw [on_parts t data rest at_ L hn r (done ++ [(q : Int)]) X _ h3 hs.2 (by omega) (by omega)]
    simp only [List.append_assoc, List.singleton_append, List.length_append, partM_len, hl, Nat.add_assoc]

/-- One record. -/
theorem on_rec {r : RecM} (hg : Good r) (L : List RecM) (a : Nat) (rest : List UInt8) : onM L a (putM r ++ rest) = onM (L ++ [(⟨r.type, r.data, r.cuts, (a : Int)⟩ : RecM)]) (a + (putM r).length) rest := by
  obtain ⟨t, data, cuts, at_⟩ := r
  obtain ⟨t0, t1, t2, hn, hr, hs⟩ := hg
  simp only at *
  unfold putM
  simp only
  cases cuts with
  | nil =>
    simp only [shortB] at hs
    simp only [partsM, List.drop_zero]
    rw [on_new t0 (by omega) (by omega) t2]
    simp only [partM_len]
  | cons c r =>
    obtain ⟨h1, h2, h3⟩ := riseB_cons hr
    obtain ⟨X, rfl⟩ := Int.eq_ofNat_of_zero_le (show 0 ≤ c by omega)
    simp only [shortB] at hs
    have hl : (data.take X).length = X := by rw [List.length_take]; omega
    simp only [partsM, Int.toNat_natCast, List.append_assoc, List.drop_zero, Nat.sub_zero]
    rw [on_new t0 (by omega) (by omega) t2, on_parts t data rest a L hn r [] X _ h3 hs.2 (by omega) (by omega)]
    simp only [List.nil_append, List.length_append, partM_len, hl, Nat.add_assoc]

/-- A row of records: as it was, but for the places. -/
theorem on_all : ∀ (M L : List RecM) (a : Nat) (rest : List UInt8), (writeM M).2 = 0 →
    ∃ M', onM L a ((writeM M).1 ++ rest) = onM (L ++ M') (a + (writeM M).1.length) rest ∧ M'.length = M.length ∧
      (∀ (i : Nat) (r : RecM), M[i]? = some r → ∃ p : Int, M'[i]? = some (⟨r.type, r.data, r.cuts, p⟩ : RecM) ∧ (a : Int) ≤ p)
  | [], L, a, rest, _ => ⟨[], by simp [writeM], rfl, by simp⟩
  | r :: M, L, a, rest, h => by
    have hc : checkM r = 0 := by
      unfold writeM at h
      split at h
      · assumption
      · rename_i hc; exact absurd h hc
    have h2 : (writeM M).2 = 0 := by
      unfold writeM at h
      rw [if_pos hc] at h
      split at h
      · assumption
      · rename_i hc; exact absurd h hc
    have e : (writeM (r :: M)).1 = putM r ++ (writeM M).1 := by
      simp only [writeM, hc, if_true, h2]
    obtain ⟨M', h3, h4, h5⟩ := on_all M (L ++ [(⟨r.type, r.data, r.cuts, (a : Int)⟩ : RecM)]) (a + (putM r).length) rest h2
    refine ⟨(⟨r.type, r.data, r.cuts, (a : Int)⟩ : RecM) :: M', ?_, by simp [h4], ?_⟩
    · rw [e, List.append_assoc, on_rec (checkM_good hc), h3]
      simp only [List.append_assoc, List.singleton_append, List.length_append, Nat.add_assoc]
    · intro i s hs
      cases i with
      | zero =>
        simp only [List.getElem?_cons_zero, Option.some.injEq] at hs
        subst hs
        exact ⟨a, by simp, Int.le_refl _⟩
      | succ i =>
        simp only [List.getElem?_cons_succ] at hs ⊢
        obtain ⟨p, hp, hle⟩ := h5 i s hs
        exact ⟨p, hp, by omega⟩

theorem readAll_on (b : List UInt8) : readAll b = onM [] 0 b := rfl
end Go.Proofs.Ytpjimppfgmemeaa
