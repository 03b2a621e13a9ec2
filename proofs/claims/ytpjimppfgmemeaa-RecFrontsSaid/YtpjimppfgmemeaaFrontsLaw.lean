/- cashbooklaw1.RecFronts: for whatever row of records and number it returns true. Conditions: the row reads as a list; KnownSaid. -/
import Derived.Test.YtpjimppfgmemeaaFront
import Derived.Test.YtpjimppfgmemeaaWritesLaw
import Derived.Maps.Own
import Derived.Maps.OwnOps
import Derived.Maps.OwnSet
import Derived.Maps.Views
namespace Go.Proofs.Ytpjimppfgmemeaa
open Go.RowKit Go.Maps

theorem Rd.front {w : World} {B n j : Nat} {A : Option Addr} {l : List UInt8} (h : Rd w B 1 A n (l.map bv)) (hj : j ≤ n) : Rd w B 1 A j ((l.take j).map bv) := by
  have hl := h.blen
  refine ⟨by rw [List.length_map, List.length_take]; omega, fun hn => ?_⟩
  obtain ⟨a, ha, hb, hc⟩ := h.at_ (by omega)
  refine ⟨a, ha, hb, fun i u hu => hc i u ?_⟩
  rw [List.getElem?_map, List.getElem?_take] at hu
  rw [List.getElem?_map]
  split at hu
  · exact hu
  · cases hu

theorem wf_key (z : Int) (h0 : 0 ≤ z) (h1 : z ≤ 1000000000000) : (Lit.int .i64 z).wf = true := by
  simp [Lit.wf, IntKind.min, IntKind.max, IntKind.signed, IntKind.bits]
  omega

theorem put_key {H : Type} {D : DataW H} {hit : Bool} {kk m : Nat} {z : Int} (hD : IsMap D) (h : D.atKey (.int .i64 kk) (.lit (.bool false)) = .lit (.bool hit)) (e : z = ((m : Nat) : Int)) :
    (D.put (.int .i64 z) (.lit (.bool true))).atKey (.int .i64 kk) (.lit (.bool false)) = .lit (.bool (hit || decide (kk = m))) := by
  subst e
  by_cases hk : kk = m
  · subst hk
    rw [atKey_put_same hD (by trivial)]
    simp
  · rw [atKey_put_other (by intro e; injection e with _ e; omega), h]
    simp [hk]

theorem bool_of {H : Type} {v : Value} {hit : Bool} {ps : List MemPlace} (h : plainElem (H := H) Try.prog 4 v = some (.lit (.bool hit), ps)) : v = .bool hit := by
  unfold plainElem at h
  rw [Try.underlying4] at h
  cases v <;> simp_all

theorem fkey : Keyed Try.prog 3 := int_keyed Try.underlying3
theorem fmap : Try.prog.underlying 50 = some (.map 3 4) := Try.underlying50
theorem fzero (w : World) : (zeroValue 4).run Try.prog w = .ok (.bool false) w := by kernel_rfl

set_option maxHeartbeats 8000000 in
set_option maxRecDepth 20000 in
theorem recFronts_any {w : World} {B n c : Nat} {A : Option Addr} {L : List RecM} {at_ : Nat} (h : RecsRd w B A n L) (hB : B ≤ w.heap.size) (hL : ∀ r ∈ L, Wide r) (hn : n ≤ 1000000000000000000) (hat : at_ ≤ 65535) :
    Calls Try.prog 5 #[.slice A n c, .int .u16 at_] w fun e w' => e = .returned (.bool true) ∧ Below w.heap.size w w' := by
  have hmm := @run_makeMap Try.prog
  go_enter Try.func5, Try.ntmps5
  go_wp2_with fail
  refine (known_any _).mono ?_
  rintro e w1 ⟨rfl, hb1⟩
  by_cases h12 : (12 : Int) < n
  · go_wp2_with fail
    go_ret
    exact ⟨rfl, hb1⟩
  have h12' : (decide ((12 : Int) < n)) = false := by simpa using h12
  go_wp2_with fail
  go_loopw [5] (fun i wr => ∃ k : Nat, k ≤ n ∧ i = .int .i64 k ∧ Below w.heap.size w wr ∧ Hid (∀ r ∈ L.take k, checkM r = 0)) (fun i _ => n - (intOf i).toNat)
  case atStart => exact ⟨0, Nat.zero_le _, rfl, hb1, Lib.hid (by simp)⟩
  case round =>
    obtain ⟨k, hk, rfl, hbel, HE⟩ := hrel
    have hll := h.len
    by_cases hkn : k < n
    · obtain ⟨a, rfl, hab, hall⟩ := h.at_ (by omega)
      have hkl : k < L.length := by omega
      obtain ⟨D, dc, C, cc, hr⟩ := hall k L[k] (List.getElem?_eq_getElem hkl)
      clear hall
      have hr' := hr.below hbel hB
      obtain ⟨r, hrr⟩ : ∃ r, r = L[k] := ⟨_, rfl⟩
      rw [← hrr] at hr hr'
      have HT : Hid (L.take (k + 1) = L.take k ++ [r]) := Lib.hid (by rw [hrr]; exact (List.take_append_getElem hkl).symm)
      clear hrr
      have c0 := hr'.c0
      have c1 := hr'.c1
      have c2 := hr'.c2
      have c3 := hr'.c3
      have hkn' : (k : Int) < (n : Int) := by omega
      have hs := hbel.size
      by_cases h3 : (600 : Int) < (r.data.length : Int)
      · go_wp2_with fail
        go_ret
        exact ⟨rfl, hbel⟩
      by_cases h4 : (20 : Int) < (r.cuts.length : Int)
      · go_wp2_with fail
        go_ret
        exact ⟨rfl, hbel⟩
      go_wp2_with fail
      refine (checkRec_any hr'.rd (by omega)).mono ?_
      rintro e w2 ⟨rfl, hb2⟩
      clear c0 c1 c2 c3
      by_cases hck : checkM r = 0
      · have hb : (checkM r != 0) = false := by simp [hck]
        have HE2 : Hid (∀ s ∈ L.take (k + 1), checkM s = 0) := Lib.hid fun s hs => by
          rw [HT.out] at hs
          rcases List.mem_append.1 hs with hs | hs
          · exact HE.out s hs
          · simp at hs; subst hs; exact hck
        clear hck HE HT
        go_wp2_with fail
        go_roundw
        case rel => exact ⟨k + 1, by omega, by go_num, hbel.trans (hb2.mono hs), HE2⟩
        case measure => simp [intOf]; omega
      · have hb : (checkM r != 0) = true := by simp [hck]
        clear hck HE HT
        go_wp2_with fail
        go_ret
        exact ⟨rfl, hbel.trans (hb2.mono hs)⟩
    · have hkk : k = n := by omega
      subst hkk
      have hall : ∀ r ∈ L, checkM r = 0 := fun r hr => HE.out r (by rw [List.take_of_length_le (by omega)]; exact hr)
      have he : (writeM L).2 = 0 := by rw [writeM_all hall]
      clear HE hall
      have hs1 := hbel.size
      have g1 := h.below hbel hB
      have f1 := h.mem
      go_wp2_with fail
      refine (toAll_any g1 (by omega) (by omega) hL).mono ?_
      rintro e w2 ⟨v2, S, rfl, ho, hm, hb2⟩
      have hSl : S.length = k := by rw [← hll, ← hm, List.length_map]
      obtain ⟨A2, c2, rfl, _, hrd⟩ := ho.readL (fun x hx => f1 x.r (by rw [← hm]; exact List.mem_map_of_mem hx))
      rw [hm] at hrd
      rw [hSl] at hrd ⊢
      clear ho hm
      have hs2 := hb2.size
      go_wp2_with fail
      refine (write_any hrd (Nat.le_refl _) (by omega)).mono ?_
      rintro e w3 ⟨vx, rfl, ox, hb3⟩
      have hs3 := hb3.size
      have b03 : Below w.heap.size w w3 := (hbel.trans (hb2.mono hs1)).trans (hb3.mono (by omega))
      clear hrd g1
      obtain ⟨X, cx, rfl, hcx, _, rx⟩ := own_form ox
      have q3 := h.below b03 hB
      obtain ⟨M, hr, lm, al⟩ := back_read L he
      have lx := writeM_len L he
      have HR := Lib.hid hr
      clear hr ox
      rw [he]
      clear he
      generalize (writeM L).1 = xb at *
      have hm0 : ((at_ : Int)).tmod ((xb.length : Int) + 1) = ((at_ % (xb.length + 1) : Nat) : Int) := by
        rw [Int.tmod_eq_emod_of_nonneg (by omega), Int.natCast_emod, Int.natCast_add]
        rfl
      have hk0 : at_ % (xb.length + 1) ≤ xb.length := by have := Nat.mod_lt at_ (show 0 < xb.length + 1 by omega); omega
      generalize at_ % (xb.length + 1) = kk at *
      obtain ⟨w4, hrun, own4, grow4⟩ := (World.ownsMap_made (H := Unit) w3 Try.prog 3 (plainElem Try.prog 4)).update fkey fmap (by decide) (key := .int .i64 0) (val := .bool true) (keyOf_int_mk Try.underlying3 (by decide)) (plainElem_bool Try.underlying4 true)
      go_wp2_with fail
      have b34 : Below w3.heap.size w3 w4 := ((Below.refl _ _).alloc (Nat.le_refl _) _).grown grow4 (by simp) (fun j hj => by cases hj; exact Nat.le_refl _)
      have fm := Lib.hid (front_start (k := kk) HR.out)
      have ak : ((.map [] : DataW Unit).put (.int .i64 0) (.lit (.bool true))).atKey (.int .i64 kk) (.lit (.bool false)) = .lit (.bool (decide (kk = 0))) := by
        by_cases h0 : kk = 0
        · subst h0
          rfl
        · rw [atKey_put_other (by intro e; injection e with _ e; omega), show decide (kk = 0) = false by simpa using h0]
          rfl
      clear hrun grow4
      go_loopw [10, 11] (fun bg la wr => ∃ (begin_ last nn : Nat) (hit : Bool) (D : DataW Unit), bg = .int .i64 begin_ ∧ la = .int .i64 last ∧ last ≤ xb.length ∧ begin_ ≤ last ∧ nn ≤ last + 1 ∧ Below w3.heap.size w3 wr ∧
        wr.ownsMap Try.prog 3 (plainElem Try.prog 4) w3.heap.size nn D ∧ Hid (FrontI xb kk M last begin_ hit) ∧ Hid (D.atKey (.int .i64 kk) (.lit (.bool false)) = .lit (.bool hit))) (fun _ la _ => xb.length - (intOf la).toNat)
      case atStart => exact ⟨0, 0, 1, _, _, rfl, rfl, by omega, by omega, by omega, b34, own4, fm, Lib.hid ak⟩
      case round =>
        obtain ⟨begin_, last, nn, hit, D, rfl, rfl, hla, hbg, hnn, hbw, hown, HF, HK⟩ := hrel
        by_cases hlx : last < xb.length
        · obtain ⟨d, x, y, hd, hx, hy, hxy, hf2⟩ := front_next HF.out hlx
          have HF2 := Lib.hid hf2
          obtain ⟨a, u, rfl, _, hu, hcx⟩ := (rx.below hbw).cell (i := last + 2) (by omega)
          obtain ⟨a', u', ha', _, hu', hcy⟩ := (rx.below hbw).cell (i := last + 3) (by omega)
          injection ha' with ha'
          subst ha'
          rw [List.getElem?_map, hx] at hu
          rw [List.getElem?_map, hy] at hu'
          simp only [Option.map_some, Option.some.injEq] at hu hu'
          subst hu hu'
          unfold bv at hcx hcy
          have bx := x.toNat_lt
          have by_ := y.toNat_lt
          have hxy' : x.toNat + 256 * y.toNat = d := by unfold le2 at hxy; omega
          have v1 : IntKind.i64.wrap ((last : Int) + 2) = (last : Int) + 2 := IntWalk.i64_in _ (by omega)
          have v2 : IntKind.i64.wrap ((last : Int) + 3) = (last : Int) + 3 := IntWalk.i64_in _ (by omega)
          have v4 : ((last : Int) + 2).toNat = last + 2 := by omega
          have v5 : ((last : Int) + 3).toNat = last + 3 := by omega
          have v6 : 0 ≤ (last : Int) + 2 := by omega
          have v7 : 0 ≤ (last : Int) + 3 := by omega
          have v8 : (last : Int) + 2 < (xb.length : Int) := by omega
          have v9 : (last : Int) + 3 < (xb.length : Int) := by omega
          have v10 : last + 2 < xb.length := by omega
          have v11 : last + 3 < xb.length := by omega
          have ax : a.add (last + 2) = ⟨a.block, a.off + (last + 1 + 1), none⟩ := by unfold Addr.add; rw [if_neg (by omega)]
          have ay : a.add (last + 3) = ⟨a.block, a.off + (last + 1 + 1 + 1), none⟩ := by unfold Addr.add; rw [if_neg (by omega)]
          rw [ax] at hcx
          rw [ay] at hcy
          clear ax ay
          have wx := wrap_byte x
          have wy := wrap_byte y
          have s1 : IntKind.i64.wrap (4 + (x.toNat : Int)) = 4 + (x.toNat : Int) := IntWalk.i64_in _ (by omega)
          have s2 : IntKind.i64.wrap (256 * (y.toNat : Int)) = 256 * (y.toNat : Int) := IntWalk.i64_in _ (by omega)
          have s3 : IntKind.i64.wrap (4 + (x.toNat : Int) + 256 * (y.toNat : Int)) = 4 + (x.toNat : Int) + 256 * (y.toNat : Int) := IntWalk.i64_in _ (by omega)
          have hlx' : (last : Int) < (xb.length : Int) := by omega
          have v3 : ¬ (xb.length : Int) < (last : Int) + 4 := by omega
          clear hx hy hxy hf2 HF
          go_wp2_with fail
          go_quiet (fail)
          by_cases hlk : last ≤ kk
          · have hlk' : (last : Int) ≤ (kk : Int) := by omega
            have HF4 : Hid (FrontI xb kk M (last + (4 + d)) last (hit || decide (kk = last + (4 + d)))) := Lib.hid (by have := HF2.out; rwa [if_pos hlk] at this)
            go_wp2_with (first | (at_mapUpdate; refine wpList_mapUpdate_own _ rfl _ _ _ 50 rfl 3 4 fkey fmap _ w3.heap.size nn _ rfl hown (by unfold maxLen; omega) _ _ _ rfl rfl (keyOf_int_mk Try.underlying3 ?_) _ [] (plainElem_bool Try.underlying4 true) ?_))
            · exact wf_key _ (by omega) (by omega)
            intro w5 own5 grow5
            have b35 : Below w3.heap.size w3 w5 := (below_drewN hbw nq).grown grow5 hbw.size (fun j hj => by cases hj; exact Nat.le_refl _)
            have hz : (last : Int) + (4 + (x.toNat : Int) + 256 * (y.toNat : Int)) = ((last + (4 + d) : Nat) : Int) := by omega
            have hk2 := put_key hown.isMap HK.out hz
            have HK2 := Lib.hid hk2
            have HZ := Lib.hid hz
            clear hk2 hz HK HF2 grow5
            go_wp2_with fail
            go_roundw
            case rel => exact ⟨last, last + (4 + d), nn + 1, _, _, rfl, by rw [← HZ.out], by omega, by omega, by omega, b35, own5, HF4, HK2⟩
            case measure => simp [intOf]; omega
          · have hlk' : ¬ (last : Int) ≤ (kk : Int) := by omega
            have HF4 : Hid (FrontI xb kk M (last + (4 + d)) begin_ (hit || decide (kk = last + (4 + d)))) := Lib.hid (by have := HF2.out; rwa [if_neg hlk] at this)
            go_wp2_with (first | (at_mapUpdate; refine wpList_mapUpdate_own _ rfl _ _ _ 50 rfl 3 4 fkey fmap _ w3.heap.size nn _ rfl hown (by unfold maxLen; omega) _ _ _ rfl rfl (keyOf_int_mk Try.underlying3 ?_) _ [] (plainElem_bool Try.underlying4 true) ?_))
            · exact wf_key _ (by omega) (by omega)
            intro w5 own5 grow5
            have b35 : Below w3.heap.size w3 w5 := (below_drewN hbw nq).grown grow5 hbw.size (fun j hj => by cases hj; exact Nat.le_refl _)
            have hz : (last : Int) + (4 + (x.toNat : Int) + 256 * (y.toNat : Int)) = ((last + (4 + d) : Nat) : Int) := by omega
            have hk2 := put_key hown.isMap HK.out hz
            have HK2 := Lib.hid hk2
            have HZ := Lib.hid hz
            clear hk2 hz HK HF2 grow5
            go_wp2_with fail
            go_roundw
            case rel => exact ⟨begin_, last + (4 + d), nn + 1, _, _, rfl, by rw [← HZ.out], by omega, by omega, by omega, b35, own5, HF4, HK2⟩
            case measure => simp [intOf]; omega
        · obtain rfl : last = xb.length := by omega
          have hend := front_end HF.out hk0
          have rk := Rd.front (rx.below hbw) hk0
          have hkc : kk ≤ cx := by omega
          have hka := HK.out
          have hws := hbw.size
          have hkx : (kk : Int) ≤ (cx : Int) := by omega
          clear HF HK fm
          go_wp2_with fail
          refine (read_any rk hkc (by omega) hws).mono ?_
          rintro e w6 ⟨v6, S6, rfl, o6, hm6, hf6, hb6⟩
          have own6 : w6.ownsMap Try.prog 3 (plainElem (H := Unit) Try.prog 4) w3.heap.size nn D := hown.kept (row := none) ⟨hb6.os, hb6.tape, hb6.output, hb6.size, fun i hi _ => hb6.block i hi⟩ (by simp)
          obtain ⟨v, ps, hrun, hv⟩ := own6.lookup fkey fmap (fzero _) (plainElem_bool Try.underlying4 false) (keyOf_int_mk Try.underlying3 (wf_key (kk : Int) (by omega) (by omega)))
          rw [hka] at hv
          obtain rfl := bool_of hv
          have b06 : Below w.heap.size w w6 := (b03.trans (hbw.mono (by omega))).trans (hb6.mono (by omega))
          have q6 := (h.below b06 hB).mono (B' := w6.heap.size) (by have := b06.size; omega)
          rcases hend with ⟨rfl, M2, e6, hM⟩ | ⟨rfl, e6⟩
          · rw [e6] at hm6 ⊢
            have hm7 : S6.map (·.r) = M2 := hm6
            have hS6 : S6.length = M2.length := by rw [← hm7, List.length_map]
            obtain ⟨A6, c6, rfl, hc6, r6⟩ := o6.readL (fun x hx => by
              obtain ⟨z0, z1, z2⟩ := hf6 x hx
              exact ⟨z0, by omega, by omega⟩)
            rw [hm7] at r6
            clear o6 hm6 hf6 hb6 hv own6 hown e6 hka HR h
            by_cases hkl : kk < xb.length
            · have hkl' : (kk : Int) < (xb.length : Int) := by omega
              go_wp2_with fail
              go_ret
              exact ⟨rfl, b06⟩
            · have hkl' : ¬ (kk : Int) < (xb.length : Int) := by omega
              obtain rfl := hM (by omega)
              rw [hS6] at r6 ⊢
              rw [lm, hll] at r6 ⊢
              go_wp2_with fail
              refine (sameAll_any r6 q6 (Nat.le_refl _) (by omega) al).mono ?_
              rintro e w7 ⟨rfl, hb7⟩
              have b07 : Below w.heap.size w w7 := b06.trans (hb7.mono b06.size)
              clear r6 q6
              go_wp2_with fail
              go_ret
              exact ⟨rfl, b07⟩
          · rw [e6] at hm6 ⊢
            have hm7 : S6.map (·.r) = [] := hm6
            obtain rfl : S6 = [] := List.map_eq_nil_iff.1 hm7
            obtain ⟨A6, c6, rfl, _, _, _⟩ := own_form o6.row
            clear o6 hm6 hf6 hb6 hv own6 hown e6 hka HR h hm7
            go_wp2_with fail
            go_ret
            exact ⟨rfl, b06⟩
end Go.Proofs.Ytpjimppfgmemeaa
