/- cashbookref7.WriteRecs by its contract: it is writeM. Conditions: the records read as such; there are few of them. -/
import Derived.Test.YtpjimppfgmemeaaCheckRec
import Derived.Test.YtpjimppfgmemeaaCutRec
namespace Go.Proofs.Ytpjimppfgmemeaa
open Go.RowKit

theorem writeM_all : ∀ {L : List RecM}, (∀ r ∈ L, checkM r = 0) → writeM L = (L.flatMap putM, 0)
  | [], _ => rfl
  | r :: L, h => by
    have ih := writeM_all (L := L) fun s hs => h s (List.mem_cons_of_mem _ hs)
    unfold writeM
    rw [if_pos (h r (List.mem_cons_self ..)), ih, if_pos rfl, List.flatMap_cons]

theorem writeM_bad : ∀ {L : List RecM} {k : Nat} {r : RecM}, (∀ s ∈ L.take k, checkM s = 0) → L[k]? = some r → checkM r ≠ 0 → writeM L = ([], checkM r)
  | s :: L, 0, r, _, hk, hc => by
    simp only [List.getElem?_cons_zero, Option.some.injEq] at hk
    subst hk
    unfold writeM
    rw [if_neg hc]
  | s :: L, k + 1, r, h, hk, hc => by
    rw [List.getElem?_cons_succ] at hk
    have ih := writeM_bad (L := L) (k := k) (fun s hs => h s (by rw [List.take_succ_cons]; exact List.mem_cons_of_mem _ hs)) hk hc
    unfold writeM
    rw [if_pos (h s (by rw [List.take_succ_cons]; exact List.mem_cons_self ..)), ih, if_neg hc]
  | [], _, _, _, hk, _ => by simp at hk

theorem own_fix {w : World} {base n : Nat} {e : TypeId} {v : Value} {xs : List Value} {l : List UInt8} (h : w.ownsRow base e 1 v n xs) (hx : xs = l.map bv) : w.ownsRow base e 1 v l.length (l.map bv) := by
  subst hx
  have hl := h.1
  simp only [List.length_map, Nat.mul_one] at hl
  rw [hl]
  exact h

set_option maxHeartbeats 8000000 in
set_option maxRecDepth 20000 in
theorem writeRecs_any {w : World} {B n c : Nat} {A : Option Addr} {L : List RecM} (h : RecsRd w B A n L) (hB : B ≤ w.heap.size) (hn : n ≤ 40) :
    Calls Try.prog 17 #[.slice A n c] w fun e w' => ∃ v', e = .returned (.tuple #[v', .int .i64 (writeM L).2]) ∧ w'.ownsRow w.heap.size 5 1 v' (writeM L).1.length ((writeM L).1.map bv) ∧ Below w.heap.size w w' := by
  go_enter Try.func17, Try.ntmps17
  go_wp2
  go_loopw [5] (fun i wr => ∃ k : Nat, k ≤ n ∧ i = .int .i64 k ∧ Below w.heap.size w wr ∧ Hid (∀ r ∈ L.take k, checkM r = 0)) (fun i _ => n - (intOf i).toNat)
  case atStart => exact ⟨0, Nat.zero_le _, rfl, Below.refl _ _, Lib.hid (by simp)⟩
  case round =>
    obtain ⟨k, hk, rfl, hbel, HE⟩ := hrel
    have hll := h.len
    by_cases hkn : k < n
    · obtain ⟨a, rfl, hab, hall⟩ := h.at_ (by omega)
      have hkl : k < L.length := by omega
      obtain ⟨D, dc, C, cc, hr⟩ := hall k L[k] (List.getElem?_eq_getElem hkl)
      clear hall
      have hr' := hr.below hbel hB
      have hget : L[k]? = some L[k] := List.getElem?_eq_getElem hkl
      obtain ⟨r, hrr⟩ : ∃ r, r = L[k] := ⟨_, rfl⟩
      rw [← hrr] at hr hr' hget
      have HT : Hid (L.take (k + 1) = L.take k ++ [r]) := Lib.hid (by rw [hrr]; exact (List.take_append_getElem hkl).symm)
      have HG := Lib.hid hget
      clear hrr hget
      have c0 := hr'.c0
      have c1 := hr'.c1
      have c2 := hr'.c2
      have c3 := hr'.c3
      have hkn' : (k : Int) < (n : Int) := by omega
      have hs := hbel.size
      go_wp2_with fail
      refine (checkRec_any hr'.rd (by omega)).mono ?_
      rintro e w1 ⟨rfl, hb1⟩
      clear c0 c1 c2 c3
      by_cases hck : checkM r = 0
      · have hb : (checkM r != 0) = false := by simp [hck]
        have HE2 : Hid (∀ s ∈ L.take (k + 1), checkM s = 0) := Lib.hid fun s hs => by
          rw [HT.out] at hs
          rcases List.mem_append.1 hs with hs | hs
          · exact HE.out s hs
          · simp at hs; subst hs; exact hck
        clear hck HE HT HG
        go_wp2_with fail
        go_roundw
        case rel => exact ⟨k + 1, by omega, by go_num, hbel.trans (hb1.mono hs), HE2⟩
        case measure => simp [intOf]; omega
      · have hb : (checkM r != 0) = true := by simp [hck]
        have HW := Lib.hid (writeM_bad HE.out HG.out hck)
        clear hck HE HT HG
        go_wp2_with fail
        go_ret2
        rw [HW.out]
        exact ⟨_, rfl, World.ownsRow_nil _ _ _ _, hbel.trans (hb1.mono hs)⟩
    · have hkk : k = n := by omega
      subst hkk
      have hall : ∀ r ∈ L, checkM r = 0 := fun r hr => HE.out r (by rw [List.take_of_length_le (by omega)]; exact hr)
      have HA := Lib.hid hall
      have HW := Lib.hid (writeM_all hall)
      clear HE hall
      go_wp2_with fail
      go_loopw [4, 7] (fun v i wr' => ∃ (m : Nat) (acc : List UInt8), m ≤ k ∧ i = .int .i64 m ∧ acc.length ≤ 400000 * m ∧ wr'.ownsRow w.heap.size 5 1 v acc.length (acc.map bv) ∧ Below w.heap.size w wr' ∧ Hid (L.flatMap putM = acc ++ (L.drop m).flatMap putM)) (fun _ i _ => k - (intOf i).toNat)
      case atStart => exact ⟨0, [], Nat.zero_le _, rfl, by simp, World.ownsRow_nil _ _ _ _, hbel, Lib.hid rfl⟩
      case round =>
        obtain ⟨m, acc, hm, rfl, hal, ho, hbl, HE⟩ := hrel
        by_cases hmk : m < k
        · obtain ⟨a, rfl, hab, hall⟩ := h.at_ (by omega)
          have hml : m < L.length := by omega
          obtain ⟨D, dc, C, cc, hr⟩ := hall m L[m] (List.getElem?_eq_getElem hml)
          have hgd := checkM_good (HA.out L[m] (List.getElem_mem hml))
          clear hall
          have hdr : L.drop m = L[m] :: L.drop (m + 1) := List.drop_eq_getElem_cons hml
          obtain ⟨r, hrr⟩ : ∃ r, r = L[m] := ⟨_, rfl⟩
          rw [← hrr] at hr hgd hdr
          have HE1 : Hid (L.flatMap putM = (acc ++ putM r) ++ (L.drop (m + 1)).flatMap putM) := Lib.hid (by rw [HE.out, hdr, List.flatMap_cons, List.append_assoc])
          clear hrr hdr HE
          have hpl := putM_len hgd
          obtain ⟨t0, t1, t2, hlen, hrise, hshort⟩ := hgd
          have hcl := rise_len r.cuts 0 r.data.length hrise (by omega)
          have hlow := hr.low
          have c0 : wr.cell? (a.add (m * 4)) = some (.int .i64 r.type) := (hr.below hbl hB).c0
          have m1 : ∀ W, Below w.heap.size w W → W.cell? ⟨(a.add (m * 4)).block, (a.add (m * 4)).off + 1, none⟩ = some (.slice D r.data.length dc) := fun W hW => (hr.below hW hB).c1
          have m2 : ∀ W, Below w.heap.size w W → W.cell? ⟨(a.add (m * 4)).block, (a.add (m * 4)).off + 2, none⟩ = some (.slice C r.cuts.length cc) := fun W hW => (hr.below hW hB).c2
          obtain ⟨hd, hc, ⟨d0, d1⟩, ⟨cc0, cc1⟩, _⟩ := hr.rd
          clear hr
          obtain ⟨dn, HD⟩ : ∃ dn, Hid (dn = r.data.length) := ⟨_, Lib.hid rfl⟩
          obtain ⟨cn, HC⟩ : ∃ cn, Hid (cn = r.cuts.length) := ⟨_, Lib.hid rfl⟩
          rw [← HD.out] at hlen hrise hshort m1 hd d0 d1 hcl
          rw [← HC.out] at m2 hc cc0 cc1 hcl
          obtain ⟨t, ht⟩ : ∃ t, t = r.type := ⟨_, rfl⟩
          rw [← ht] at c0 t0 t1 t2
          have HT := Lib.hid ht
          have HR := Lib.hid hrise
          have HS := Lib.hid hshort
          clear hrise hshort ht
          have hmk' : (m : Int) < (k : Int) := by omega
          have M1 := Lib.hid m1
          have M2 := Lib.hid m2
          clear m1 m2
          go_wp2_with fail
          clear c0
          go_loopw [4, 8, 9, 10] (fun v kd fm i wr2 => ∃ (j q : Nat) (K : Int) (acc2 : List UInt8), j ≤ cn + 1 ∧ i = .int .i64 j ∧ kd = .int .i64 K ∧ fm = .int .i64 q ∧ 0 ≤ K ∧ K ≤ 65535 ∧ q ≤ dn ∧ acc2.length ≤ 400000 * m + 228 * j ∧
            wr2.ownsRow w.heap.size 5 1 v acc2.length (acc2.map bv) ∧ Below w.heap.size w wr2 ∧
            Hid ((j ≤ cn ∧ acc ++ putM r = acc2 ++ partsM K r.data q (r.cuts.drop j) ∧ riseB q dn (r.cuts.drop j) = true ∧ shortB q dn (r.cuts.drop j)) ∨ (j = cn + 1 ∧ acc2 = acc ++ putM r))) (fun _ _ _ i _ => cn + 1 - (intOf i).toNat)
          case atStart => exact ⟨0, 0, t, acc, by omega, rfl, rfl, rfl, t0, t1, by omega, by omega, ho, hbl, Lib.hid (.inl ⟨by omega, by rw [HT.out]; rfl, HR.out, HS.out⟩)⟩
          case round =>
            obtain ⟨j, q, K, acc2, hj, rfl, rfl, rfl, K0, K1, hq, hal2, ho2, hb2, HJ⟩ := hrel
            have n1 := M1.out _ hb2
            have n2 := M2.out _ hb2
            by_cases hjc : j ≤ cn
            · have hjc' : (j : Int) ≤ (cn : Int) := by omega
              have hJ : acc ++ putM r = acc2 ++ partsM K r.data q (r.cuts.drop j) ∧ riseB q dn (r.cuts.drop j) = true ∧ shortB q dn (r.cuts.drop j) := by
                rcases HJ.out with h | h
                · exact h.2
                · omega
              clear HJ
              by_cases hjl : j < cn
              · have hjl' : (j : Int) < (cn : Int) := by omega
                obtain ⟨ca, x, rfl, _, hcell, _, hdrop⟩ := (hc.belowMono hb2 hB).intAt hjl
                rw [hdrop] at hJ
                obtain ⟨x0, x1, hr2⟩ := riseB_cons hJ.2.1
                have x2 : x - q ≤ 224 := hJ.2.2.1
                obtain ⟨X, rfl⟩ := Int.eq_ofNat_of_zero_le (show 0 ≤ x by omega)
                have HJ3 := Lib.hid (And.intro hJ.1 (And.intro hr2 hJ.2.2.2))
                clear hdrop hJ hr2
                have hcut := (hd.belowMono hb2 hB).cut (i := q) (j := X) (cap := dc) (by omega) (by omega) (by omega)
                rw [if_neg (by omega), Nat.mul_one, Nat.mul_one, ← List.map_drop, ← List.map_take] at hcut
                have hqc : ¬ dc = q := by omega
                have hlen3 : ((r.data.drop q).take (X - q)).length = X - q := by rw [List.length_take, List.length_drop, ← HD.out]; omega
                have hb3 : (((X - q : Nat) : Int)) = (X : Int) - (q : Int) := by omega
                have B1 := Lib.hid (b2_map K ⟨K0, by omega⟩)
                have B2 : Hid ((b2 ((X : Int) - (q : Int))).map bv = [.int .u8 ((X : Int) - (q : Int)), .int .u8 (((X : Int) - (q : Int)) / 256)]) := Lib.hid (by rw [b2_map _ ⟨by omega, by omega⟩, Int.emod_eq_of_lt (by omega) (by omega)])
                have L3 := Lib.hid hlen3
                have L4 := Lib.hid hb3
                have hbs := hb2.size
                clear hlen3 hb3
                go_wp2_with (at_builtin; refine wpList_app bytesRow rfl (.tmp 73) (.tmp 84) rfl rfl rfl (ho2.alloc _) (Rd.fresh _ _ 1 4 _ rfl) ?_ ?_ ?_ ?_ ?_)
                · first | (intro u hu; simp at hu; rcases hu with rfl | rfl | rfl | rfl <;> rfl) | exact ⟨rfl, rfl, rfl, rfl⟩
                · unfold maxLen; omega
                · omega
                · first | omega | (simp; omega)
                intro v5 w5 o5 _ b5
                obtain ⟨V5, k5, rfl, _, _, _⟩ := own_form o5
                have b25 : Below w.heap.size wr w5 := ((Below.refl _ _).alloc hbs _).trans b5
                have b05 := hb2.trans b25
                have n5 := M1.out _ b05
                have s5 := b05.size
                clear n1 n2
                go_wp2_with (at_builtin; refine wpList_app bytesRow rfl (.tmp 86) (.tmp 94) rfl rfl rfl o5 (hcut.belowMono b25 hB) (bv_one _) ?_ ?_ ?_ ?_)
                · unfold maxLen; omega
                · omega
                · omega
                intro v6 w6 o6 _ b6
                have b06 := b05.trans b6
                have o7 := own_fix o6 (l := acc2 ++ partM K ((r.data.drop q).take (X - q))) (by
                  simp only [partM, List.map_append, B1.out, L3.out, L4.out, B2.out, List.append_assoc, List.cons_append, List.nil_append, List.map_take, List.map_drop])
                clear o5 o6 n5 b5 b6 hcut
                go_wp2_with fail
                go_roundw
                case rel => exact ⟨j + 1, X, 60, _, by omega, by go_num, rfl, rfl, by omega, by omega, by omega, by rw [List.length_append, partM_len, L3.out]; omega, o7, b06, Lib.hid (.inl ⟨by omega, by rw [HJ3.out.1, partsM, List.append_assoc, Int.toNat_natCast], HJ3.out.2.1, HJ3.out.2.2⟩)⟩
                case measure => simp [intOf]; omega
              · have hjl' : ¬ (j : Int) < (cn : Int) := by omega
                have hje : j = cn := by omega
                subst hje
                have hdrop : r.cuts.drop j = [] := List.drop_eq_nil_of_le (by rw [HC.out]; exact Nat.le_refl _)
                rw [hdrop] at hJ
                have x2 : (dn : Int) - q ≤ 224 := hJ.2.2
                have HJ3 := Lib.hid hJ.1
                clear hdrop hJ
                have hcut := (hd.belowMono hb2 hB).cut (i := q) (j := dn) (cap := dc) (by omega) (by omega) (by omega)
                rw [Nat.mul_one, Nat.mul_one, ← List.map_drop, ← List.map_take] at hcut
                by_cases hqc : dc = q
                all_goals
                  first | rw [if_pos hqc] at hcut | rw [if_neg hqc] at hcut
                  have hlen3 : ((r.data.drop q).take (dn - q)).length = dn - q := by rw [List.length_take, List.length_drop, ← HD.out]; omega
                  have hb3 : (((dn - q : Nat) : Int)) = (dn : Int) - (q : Int) := by omega
                  have B1 := Lib.hid (b2_map K ⟨K0, by omega⟩)
                  have B2 : Hid ((b2 ((dn : Int) - (q : Int))).map bv = [.int .u8 ((dn : Int) - (q : Int)), .int .u8 (((dn : Int) - (q : Int)) / 256)]) := Lib.hid (by rw [b2_map _ ⟨by omega, by omega⟩, Int.emod_eq_of_lt (by omega) (by omega)])
                  have L3 := Lib.hid hlen3
                  have L4 := Lib.hid hb3
                  have hbs := hb2.size
                  clear hlen3 hb3
                  go_wp2_with (at_builtin; refine wpList_app bytesRow rfl (.tmp 73) (.tmp 84) rfl rfl rfl (ho2.alloc _) (Rd.fresh _ _ 1 4 _ rfl) ?_ ?_ ?_ ?_ ?_)
                  · first | (intro u hu; simp at hu; rcases hu with rfl | rfl | rfl | rfl <;> rfl) | exact ⟨rfl, rfl, rfl, rfl⟩
                  · unfold maxLen; omega
                  · omega
                  · first | omega | (simp; omega)
                  intro v5 w5 o5 _ b5
                  obtain ⟨V5, k5, rfl, _, _, _⟩ := own_form o5
                  have b25 : Below w.heap.size wr w5 := ((Below.refl _ _).alloc hbs _).trans b5
                  have b05 := hb2.trans b25
                  have n5 := M1.out _ b05
                  have s5 := b05.size
                  clear n1 n2
                  go_wp2_with (at_builtin; refine wpList_app bytesRow rfl (.tmp 86) (.tmp 94) rfl rfl rfl o5 (hcut.belowMono b25 hB) (bv_one _) ?_ ?_ ?_ ?_)
                  · unfold maxLen; omega
                  · omega
                  · omega
                  intro v6 w6 o6 _ b6
                  have b06 := b05.trans b6
                  have o7 := own_fix o6 (l := acc2 ++ partM K ((r.data.drop q).take (dn - q))) (by
                    simp only [partM, List.map_append, B1.out, L3.out, L4.out, B2.out, List.append_assoc, List.cons_append, List.nil_append, List.map_take, List.map_drop])
                  clear o5 o6 n5 b5 b6 hcut
                  go_wp2_with fail
                  go_roundw
                  case rel => exact ⟨j + 1, dn, 60, _, by omega, by go_num, rfl, rfl, by omega, by omega, by omega, by rw [List.length_append, partM_len, L3.out]; omega, o7, b06, Lib.hid (.inr ⟨rfl, by rw [HJ3.out, partsM, List.take_of_length_le (by rw [List.length_drop, ← HD.out]; exact Nat.le_refl _)]⟩)⟩
                  case measure => first | (simp [intOf]; done) | (simp [intOf]; omega)
            · have hjc' : ¬ (j : Int) ≤ (cn : Int) := by omega
              have hJ : acc2 = acc ++ putM r := by
                rcases HJ.out with h | h
                · omega
                · exact h.2
              have HJ2 := Lib.hid hJ
              obtain rfl : j = cn + 1 := by omega
              clear HJ hJ hj hjc hjc' n1 hal2
              go_wp2_with fail
              go_roundw
              case rel => exact ⟨m + 1, acc2, by omega, by go_num, by have := congrArg List.length HJ2.out; rw [List.length_append] at this; omega, ho2, hb2, Lib.hid (by rw [HE1.out, HJ2.out])⟩
              case measure => simp [intOf]; omega
        · have hmk' : ¬ (m : Int) < (k : Int) := by omega
          have HZ : Hid (L.flatMap putM = acc) := Lib.hid (by rw [HE.out, List.drop_eq_nil_of_le (by omega)]; simp)
          clear HE
          go_wp2_with fail
          go_ret2
          rw [HW.out, HZ.out]
          exact ⟨_, rfl, ho, hbl⟩
end Go.Proofs.Ytpjimppfgmemeaa
