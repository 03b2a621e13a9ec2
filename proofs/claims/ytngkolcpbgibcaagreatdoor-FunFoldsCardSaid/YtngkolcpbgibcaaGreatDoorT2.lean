/- fun.middle by its contract. Condition: values may be, words are valid. -/
import Derived.Test.YtngkolcpbgibcaaGreatDoorT1
import Derived.Test.YtngkolcpbgibcaaGreatDoorF8
set_option linter.unusedVariables false
set_option linter.unusedSimpArgs false
namespace Go.Proofs.YtngkolcpbgibcaaGreatDoor
open Go.RowKit Go.Lib
def pcL (l : List UInt8) (i n : Nat) : List UInt8 := (((rns l).drop i).take n).flatMap encodeRune
def midX (x y z : VX) : VX := match wrdX x with
  | .no v => v
  | .ok l => match whX y 1 with
    | .no v => v
    | .ok i => match whX z 0 with
      | .no v => v
      | .ok n => textX (pcL l (i.toNat - 1) n.toNat)
theorem at_bh : ∀ (j : Nat) (l : List UInt8), validD l = true → rns (l.drop (bhN l j)) = (rns l).drop j ∧ validD (l.drop (bhN l j)) = true
  | 0, l, hv => by simp [bhN, hv]
  | j + 1, l, hv => by
    by_cases hne : l = []
    · subst hne; simp [bhN, rns_nil, hv]
    · obtain ⟨h1, h2⟩ := valid_head hne hv; have hr := rns_step l hne; have he := encode_decode l hne h1; have hle := decodeL_le l hne
      have hb : bhN l (j + 1) = (decodeL l).2 + bhN (l.drop (decodeL l).2) j := by
        unfold bhN; rw [hr, List.take_succ_cons, List.flatMap_cons, List.length_append, he, List.length_take, Nat.min_eq_left hle]
      obtain ⟨i1, i2⟩ := at_bh j (l.drop (decodeL l).2) h2; rw [hb, ← List.drop_drop, hr, List.drop_succ_cons]; exact ⟨i1, i2⟩
theorem ext_drop (l : List UInt8) (b : Nat) : (⟨l.toArray⟩ : ByteArray).extract b l.length = ⟨(l.drop b).toArray⟩ := by
  apply ByteArray.ext; simp [ByteArray.data_extract]; exact List.take_of_length_le (by simp)
theorem ext_take (l : List UInt8) (b : Nat) : (⟨l.toArray⟩ : ByteArray).extract 0 b = ⟨(l.take b).toArray⟩ := by
  apply ByteArray.ext; simp [ByteArray.data_extract]
theorem pc_two {l : List UInt8} (hv : validD l = true) (k m : Nat) : (l.drop (bhN l k)).take (bhN (l.drop (bhN l k)) m) = pcL l k m := by
  obtain ⟨h1, h2⟩ := at_bh k l hv; rw [(bhN_take h2 m).1, h1]; rfl
theorem whX_ge {x : VX} {least n : Int} (h : whX x least = .ok n) : least ≤ n := by
  unfold whX at h
  cases hx : numX x with
  | no y => rw [hx] at h; cases h
  | ok m s =>
    rw [hx] at h; simp only [whN] at h
    split at h
    · rename_i h2
      injection h with h; omega
    · cases h
theorem whX_hi {x : VX} (hg : GdX x) {least n : Int} (h : whX x least = .ok n) : n ≤ 9223372036854775807 := by
  unfold whX at h
  cases hx : numX x with
  | no y => rw [hx] at h; cases h
  | ok m s =>
    rw [hx] at h; simp only [whN] at h
    split at h
    · injection h with h; have := (hg m s hx).hi; omega
    · cases h
theorem behind_l {w : World} {l : List UInt8} (hv : validD l = true) (hs : l.length ≤ 100000000) (n : Nat) (hn : n ≤ 9223372036854775807) :
    Calls Tryz.prog 181 #[.string ⟨l.toArray⟩, .int .i64 n] w fun e w' => e = .returned (.int .i64 (bhN l n : Nat)) ∧ Below w.heap.size w w' := by
  have := behind_any (w := w) ⟨l.toArray⟩ n (by simpa using hv) (by simp [ByteArray.size]; omega) hn
  simpa using this
set_option maxRecDepth 20000 in
set_option maxHeartbeats 4000000 in
theorem middle_any {w : World} (HTn : Tens w) (HVl : Val w) {x y z : VX} (ho : OkX x) (sy : shortX 100000000 y) (sz : shortX 100000000 z) (gy : GdX y) (gz : GdX z) (hl : ∀ l, wrdX x = .ok l → validD l = true ∧ l.length ≤ 100000000) :
    Calls Tryz.prog 123 #[.agg (vc x).toArray, .agg (vc y).toArray, .agg (vc z).toArray] w fun e W => e = .returned (.agg (vc (midX x y z)).toArray) ∧ Below w.heap.size w W := by
  have HB := Lib.hid (BX.start w); have HT := Lib.hid HTn; have HVL := Lib.hid HVl; clear HTn HVl; unfold midX
  cases hw : wrdX x with
  | no v =>
    have HW := Lib.hid (fun (W : World) (hb : Below w.heap.size w W) => words_no ho hw (HT.out.below hb)); clear hw; go_enter Tryz.func123, Tryz.ntmps123
    repeat' (first | ((with_reducible show Oper.wp _ _ _ _ _ _); (first | ((first | refine al_v HB rfl ?_ | refine bx_v HB _ rfl rfl ?_); clear HB; (first | (have _t : Nat := g2; clear _t; intro g3 W HB) | (have _t : Nat := g1; clear _t; intro g2 W HB) | (have _t : Nat := g0; clear _t; intro g1 W HB) | intro g0 W HB); go_simp) | (refine ld_v 3 HB rfl _ rfl rfl ?_; go_simp))) | go_values | go_skip | go_guarded | go_step | go_upon)
    refine (HW.out _ HB.out.bel).mono ?_; rintro e W1 ⟨rfl, hb⟩; have HB := Lib.hid (HB.out.call hb); clear hb; dsimp only
    repeat' (first | ((with_reducible show Oper.wp _ _ _ _ _ _); (first | (refine al_v HB rfl ?_; clear HB; intro g4 W HB; go_simp) | (refine ld_v 0 HB rfl _ rfl rfl ?_; go_simp) | ((first | refine st_v 0 HB rfl _ _ rfl rfl rfl ?_ | refine st_v 1 HB rfl _ _ rfl rfl rfl ?_); clear HB; intro W HB; dsimp only [List.set] at HB; go_simp))) | go_values | go_skip | go_guarded | go_step | go_upon)
    exact bodyPost_ret (res_v rfl HB (i := 1) rfl rfl) rfl ⟨rfl, HB.out.bel⟩
  | ok l =>
    have HW := Lib.hid (fun (W : World) (hb : Below w.heap.size w W) => words_ok ho hw (HT.out.below hb)); obtain ⟨hv, hlen⟩ := hl l hw; clear hw hl; simp only [sL] at HW; have HY := Lib.hid (fun W : World => whole_any (w := W) sy 1); dsimp only
    cases hy : whX y 1 with
    | no v =>
      rw [hy] at HY; simp only [whV] at HY; clear hy; go_enter Tryz.func123, Tryz.ntmps123
      repeat' (first | ((with_reducible show Oper.wp _ _ _ _ _ _); (first | ((first | refine al_v HB rfl ?_ | refine bx_v HB _ rfl rfl ?_); clear HB; (first | (have _t : Nat := g2; clear _t; intro g3 W HB) | (have _t : Nat := g1; clear _t; intro g2 W HB) | (have _t : Nat := g0; clear _t; intro g1 W HB) | intro g0 W HB); go_simp) | (refine ld_v 3 HB rfl _ rfl rfl ?_; go_simp))) | go_values | go_skip | go_guarded | go_step | go_upon)
      refine (HW.out _ HB.out.bel).mono ?_; rintro e W1 ⟨rfl, hb⟩; have HB := Lib.hid (HB.out.call hb); clear hb; dsimp only
      repeat' (first | ((with_reducible show Oper.wp _ _ _ _ _ _); (first | (refine al_v HB rfl ?_; clear HB; intro g4 W HB; go_simp) | (refine ld_v 3 HB rfl _ rfl rfl ?_; go_simp) | (refine st_v 0 HB rfl _ _ rfl rfl rfl ?_; clear HB; intro W HB; dsimp only [List.set] at HB; go_simp))) | go_values | go_skip | go_guarded | go_step | go_upon)
      refine (HY.out _).mono ?_; rintro e W1 ⟨rfl, hb⟩; have HB := Lib.hid (HB.out.call hb); clear hb; dsimp only
      repeat' (first | ((with_reducible show Oper.wp _ _ _ _ _ _); (first | (refine ld_v 0 HB rfl _ rfl rfl ?_; go_simp) | ((first | refine st_v 0 HB rfl _ _ rfl rfl rfl ?_ | refine st_v 1 HB rfl _ _ rfl rfl rfl ?_); clear HB; intro W HB; dsimp only [List.set] at HB; go_simp))) | go_values | go_skip | go_guarded | go_step | go_upon)
      exact bodyPost_ret (res_v rfl HB (i := 1) rfl rfl) rfl ⟨rfl, HB.out.bel⟩
    | ok i =>
      rw [hy] at HY; simp only [whV] at HY; have hi1 := whX_ge hy; have hi2 := whX_hi gy hy; clear hy; have HZ := Lib.hid (fun W : World => whole_any (w := W) sz 0); dsimp only
      cases hz : whX z 0 with
      | no v =>
        rw [hz] at HZ; simp only [whV] at HZ; clear hz; go_enter Tryz.func123, Tryz.ntmps123
        repeat' (first | ((with_reducible show Oper.wp _ _ _ _ _ _); (first | ((first | refine al_v HB rfl ?_ | refine bx_v HB _ rfl rfl ?_); clear HB; (first | (have _t : Nat := g2; clear _t; intro g3 W HB) | (have _t : Nat := g1; clear _t; intro g2 W HB) | (have _t : Nat := g0; clear _t; intro g1 W HB) | intro g0 W HB); go_simp) | (refine ld_v 3 HB rfl _ rfl rfl ?_; go_simp))) | go_values | go_skip | go_guarded | go_step | go_upon)
        refine (HW.out _ HB.out.bel).mono ?_; rintro e W1 ⟨rfl, hb⟩; have HB := Lib.hid (HB.out.call hb); clear hb; dsimp only
        repeat' (first | ((with_reducible show Oper.wp _ _ _ _ _ _); (first | (refine al_v HB rfl ?_; clear HB; intro g4 W HB; go_simp) | (refine ld_v 3 HB rfl _ rfl rfl ?_; go_simp) | (refine st_v 0 HB rfl _ _ rfl rfl rfl ?_; clear HB; intro W HB; dsimp only [List.set] at HB; go_simp))) | go_values | go_skip | go_guarded | go_step | go_upon)
        refine (HY.out _).mono ?_; rintro e W1 ⟨rfl, hb⟩; have HB := Lib.hid (HB.out.call hb); clear hb; dsimp only
        repeat' (first | ((with_reducible show Oper.wp _ _ _ _ _ _); (first | (refine ld_v 2 HB rfl _ rfl rfl ?_; go_simp) | (refine st_v 0 HB rfl _ _ rfl rfl rfl ?_; clear HB; intro W HB; dsimp only [List.set] at HB; go_simp))) | go_values | go_skip | go_guarded | go_step | go_upon)
        refine (HZ.out _).mono ?_; rintro e W1 ⟨rfl, hb⟩; have HB := Lib.hid (HB.out.call hb); clear hb; dsimp only
        repeat' (first | ((with_reducible show Oper.wp _ _ _ _ _ _); (first | (refine ld_v 0 HB rfl _ rfl rfl ?_; go_simp) | ((first | refine st_v 0 HB rfl _ _ rfl rfl rfl ?_ | refine st_v 1 HB rfl _ _ rfl rfl rfl ?_); clear HB; intro W HB; dsimp only [List.set] at HB; go_simp))) | go_values | go_skip | go_guarded | go_step | go_upon)
        exact bodyPost_ret (res_v rfl HB (i := 1) rfl rfl) rfl ⟨rfl, HB.out.bel⟩
      | ok n =>
        rw [hz] at HZ; simp only [whV] at HZ; have hn1 := whX_ge hz; have hn2 := whX_hi gz hz; clear hz; dsimp only; obtain ⟨k, rfl⟩ : ∃ k : Nat, i = ((k + 1 : Nat) : Int) := ⟨i.toNat - 1, by omega⟩
        obtain ⟨m, rfl⟩ : ∃ m : Nat, n = (m : Int) := ⟨n.toNat, by omega⟩
        rw [show ((k + 1 : Nat) : Int).toNat - 1 = k by omega, show (m : Int).toNat = m by omega]; have H1 := Lib.hid (fun W : World => behind_l (w := W) hv (by omega) k (by omega)); have hb1 := bhN_le hv k; have hk : ((k + 1 : Nat) : Int) - 1 = (k : Int) := by omega
        go_enter Tryz.func123, Tryz.ntmps123
        repeat' (first | ((with_reducible show Oper.wp _ _ _ _ _ _); (first | ((first | refine al_v HB rfl ?_ | refine bx_v HB _ rfl rfl ?_); clear HB; (first | (have _t : Nat := g2; clear _t; intro g3 W HB) | (have _t : Nat := g1; clear _t; intro g2 W HB) | (have _t : Nat := g0; clear _t; intro g1 W HB) | intro g0 W HB); go_simp) | (refine ld_v 3 HB rfl _ rfl rfl ?_; go_simp))) | go_values | go_skip | go_guarded | go_step | go_upon)
        refine (HW.out _ HB.out.bel).mono ?_; rintro e W1 ⟨rfl, hb⟩; have HB := Lib.hid (HB.out.call hb); clear hb; dsimp only
        repeat' (first | ((with_reducible show Oper.wp _ _ _ _ _ _); (first | (refine al_v HB rfl ?_; clear HB; intro g4 W HB; go_simp) | (refine ld_v 3 HB rfl _ rfl rfl ?_; go_simp) | (refine st_v 0 HB rfl _ _ rfl rfl rfl ?_; clear HB; intro W HB; dsimp only [List.set] at HB; go_simp))) | go_values | go_skip | go_guarded | go_step | go_upon)
        refine (HY.out _).mono ?_; rintro e W1 ⟨rfl, hb⟩; have HB := Lib.hid (HB.out.call hb); clear hb; dsimp only
        repeat' (first | ((with_reducible show Oper.wp _ _ _ _ _ _); (first | (refine ld_v 2 HB rfl _ rfl rfl ?_; go_simp) | (refine st_v 0 HB rfl _ _ rfl rfl rfl ?_; clear HB; intro W HB; dsimp only [List.set] at HB; go_simp))) | go_values | go_skip | go_guarded | go_step | go_upon)
        refine (HZ.out _).mono ?_; rintro e W1 ⟨rfl, hb⟩; have HB := Lib.hid (HB.out.call hb); clear hb; dsimp only
        repeat' (first | ((with_reducible show Oper.wp _ _ _ _ _ _); refine st_v 0 HB rfl _ _ rfl rfl rfl ?_; clear HB; intro W HB; dsimp only [List.set] at HB; go_simp) | go_values | go_skip | go_guarded | go_step | go_upon)
        have hb0 : (0 : Int) ≤ (bhN l k : Nat) := by omega
        have hb2 : ((bhN l k : Nat) : Int) ≤ l.length := by omega
        have H2 := Lib.hid (fun W : World => behind_l (w := W) (at_bh k l hv).2 (by rw [List.length_drop]; omega) m (by omega)); have H3 : Hid ((l.drop (bhN l k)).take (bhN (l.drop (bhN l k)) m) = pcL l k m ∧ bhN (l.drop (bhN l k)) m ≤ (l.drop (bhN l k)).length) := Lib.hid ⟨pc_two hv k m, bhN_le (at_bh k l hv).2 m⟩; have H4 := Lib.hid (fun (W : World) (hb : Below w.heap.size w W) => fText_any (HVL.out.below hb) (pcL l k m) (by rw [← H3.out.1, List.length_take, List.length_drop]; omega)); simp only [sL] at H4; generalize bhN l k = b at *; refine (H1.out _).mono ?_; rintro e W1 ⟨rfl, hb⟩; have HB := Lib.hid (HB.out.call hb); clear hb; dsimp only
        repeat' (first | go_values | go_skip | go_guarded | go_step | go_upon)
        rw [ext_drop]; have hl2 : (l.drop b).length = l.length - b := List.length_drop ..; generalize l.drop b = l2 at *; have hb3 := H3.out.2; have hb4 : ((bhN l2 m : Nat) : Int) ≤ l2.length := by omega
        have hb5 : (0 : Int) ≤ (bhN l2 m : Nat) := by omega
        have H5 : Hid (l2.take (bhN l2 m) = pcL l k m) := Lib.hid H3.out.1; generalize bhN l2 m = b2 at *; clear H3; refine (H2.out _).mono ?_; rintro e W1 ⟨rfl, hb⟩; have HB := Lib.hid (HB.out.call hb); clear hb; dsimp only
        repeat' (first | go_values | go_skip | go_guarded | go_step | go_upon)
        rw [ext_take, H5.out]; refine (H4.out _ HB.out.bel).mono ?_; rintro e W1 ⟨rfl, hb⟩; have HB := Lib.hid (HB.out.call hb); clear hb; dsimp only
        repeat' (first | ((with_reducible show Oper.wp _ _ _ _ _ _); refine st_v 1 HB rfl _ _ rfl rfl rfl ?_; clear HB; intro W HB; dsimp only [List.set] at HB; go_simp) | go_values | go_skip | go_guarded | go_step | go_upon)
        exact bodyPost_ret (res_v rfl HB (i := 1) rfl rfl) rfl ⟨rfl, HB.out.bel⟩
end Go.Proofs.YtngkolcpbgibcaaGreatDoor
