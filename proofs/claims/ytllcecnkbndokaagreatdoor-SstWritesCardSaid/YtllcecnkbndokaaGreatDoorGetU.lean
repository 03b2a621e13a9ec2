/- str.getUnits by its contract. Condition: the bytes and the cuts read as such, no cut stands right behind another one; the Cursor stands in the bytes. -/
import Derived.Test.YtllcecnkbndokaaGreatDoorUnit
import Derived.Test.YtllcecnkbndokaaGreatDoorPut2
namespace Go.Proofs.YtllcecnkbndokaaGreatDoor
open Go.RowKit Go.Lib

def rv (x : Int) : Value := .int .i32 x
theorem rv_one (l : List Int) : ∀ u ∈ l.map rv, u.oneCell' = true := by
  intro u hu
  obtain ⟨c, _, rfl⟩ := List.mem_map.1 hu
  rfl
theorem runesRow : ElemRow Tryz.prog 145 21 (.int .i32 0) 1 4 := by
  obtain ⟨i, hi, h0, h1, h2⟩ := info_parts (P := Tryz.prog) (e := 21) (z := .int .i32 0) (size := 1) (bytes := 4) (by kernel_rfl)
  exact ⟨Tryz.underlying145, ⟨i, hi, h0, h1, h2⟩, rfl, by omega⟩

/-- So many units from a place on: what they are, the place behind them, what is wrong. -/
def rdUs (l : List UInt8) (cs : List Int) : Nat → Nat → Nat → List Int × Nat × Int
  | 0, _, at_ => ([], at_, 0)
  | k + 1, fl, at_ =>
    if (rdA l cs fl at_).2.2 = 0 then
      if (rdU1 l cs (rdA l cs fl at_).1 (rdA l cs fl at_).2.1).2.2 = 0 then
        (((rdU1 l cs (rdA l cs fl at_).1 (rdA l cs fl at_).2.1).1 : Int) :: (rdUs l cs k (rdA l cs fl at_).1 (rdU1 l cs (rdA l cs fl at_).1 (rdA l cs fl at_).2.1).2.1).1, (rdUs l cs k (rdA l cs fl at_).1 (rdU1 l cs (rdA l cs fl at_).1 (rdA l cs fl at_).2.1).2.1).2)
      else ([], 0, (rdU1 l cs (rdA l cs fl at_).1 (rdA l cs fl at_).2.1).2.2)
    else ([], 0, (rdA l cs fl at_).2.2)
/-- The units of a text at a place: what they are, the place behind it, what is wrong. -/
def rdAll (l : List UInt8) (cs : List Int) (at_ : Nat) : List Int × Nat × Int :=
  if at_ + 1 < l.length then
    if 1000 < (l.getD at_ 0).toNat + 256 * (l.getD (at_ + 1) 0).toNat then ([], 0, 4)
    else if (rdF l (at_ + 2)).2.2 = 0 then rdUs l cs ((l.getD at_ 0).toNat + 256 * (l.getD (at_ + 1) 0).toNat) (rdF l (at_ + 2)).1 (rdF l (at_ + 2)).2.1
    else ([], 0, (rdF l (at_ + 2)).2.2)
  else ([], 0, 5)

theorem byte_lt (l : List UInt8) (i : Nat) : (l.getD i 0).toNat < 256 := (l.getD i 0).toNat_lt
theorem rdF_le (l : List UInt8) (at_ : Nat) (h : at_ ≤ l.length) : (rdF l at_).2.1 ≤ l.length ∧ (rdF l at_).1 ≤ 1 := by
  unfold rdF
  by_cases h1 : at_ < l.length
  · rw [if_pos h1]
    by_cases h2 : (l.getD at_ 0).toNat ≤ 1
    · rw [if_pos h2]; exact ⟨h1, h2⟩
    · rw [if_neg h2]; exact ⟨h, by simp⟩
  · rw [if_neg h1]; exact ⟨h, by simp⟩
theorem rdA_le (l : List UInt8) (cs : List Int) (fl at_ : Nat) (h : at_ ≤ l.length) (hf : fl ≤ 1) : (rdA l cs fl at_).2.1 ≤ l.length ∧ (rdA l cs fl at_).1 ≤ 1 := by
  unfold rdA
  split
  · exact rdF_le l at_ h
  · exact ⟨h, hf⟩
theorem rdU1_le (l : List UInt8) (cs : List Int) (fl at_ : Nat) (h : at_ ≤ l.length) : (rdU1 l cs fl at_).2.1 ≤ l.length ∧ (rdU1 l cs fl at_).1 ≤ 65535 := by
  have b0 := byte_lt l at_
  have b1 := byte_lt l (at_ + 1)
  unfold rdU1
  by_cases h0 : fl = 0
  · rw [if_pos h0]
    by_cases h1 : at_ < l.length
    · rw [if_pos h1]; exact ⟨h1, by simp only; omega⟩
    · rw [if_neg h1]; exact ⟨h, by simp⟩
  · rw [if_neg h0]
    by_cases h1 : at_ + 1 < l.length
    · rw [if_pos h1]
      split
      · exact ⟨h, by simp⟩
      · exact ⟨h1, by simp only; omega⟩
    · rw [if_neg h1]; exact ⟨h, by simp⟩

theorem own_set {w : World} {base g i k : Nat} {e t : TypeId} {v u : Value} {l : List Value} {cs : Array Value} (ho : w.ownsRow base e 1 v k l) (hk : Bk w g t cs) (hne : e ≠ t) : (w.setCell ⟨g, i, none⟩ u).ownsRow base e 1 v k l := by
  have hb := own_ne ho hk hne
  refine ⟨ho.1, ?_⟩
  rcases ho.2 with h2 | ⟨b, cap, cr, rfl, hb1, hh, r⟩
  · exact .inl h2
  · refine .inr ⟨b, cap, cr, rfl, hb1, ?_, r⟩
    rw [Below.heap_setCell w ⟨g, i, none⟩ u b (by
      rintro rfl
      exact hb rfl)]
    exact hh
theorem own_cursor {w : World} {base g k : Nat} {v : Value} {l : List Value} {cs : Array Value} (ho : w.ownsRow base 21 1 v k l) (hk : Bk w g 99 cs) (a b : Value) : ((w.setCell ⟨g, 0, none⟩ a).setCell ⟨g, 1, none⟩ b).ownsRow base 21 1 v k l :=
  own_set (own_set ho hk (by decide)) (hk.set_ 0 a) (by decide)

theorem own_drew {w : World} {base k n : Nat} {e : TypeId} {v : Value} {l : List Value} (ho : w.ownsRow base e k v n l) : w.drew.ownsRow base e k v n l := ho

theorem rdUs_step (l : List UInt8) (cs : List Int) (k fl at_ : Nat) (acc : List Int) {T : List Int × Nat × Int} (h : (acc ++ (rdUs l cs (k + 1) fl at_).1, (rdUs l cs (k + 1) fl at_).2) = T)
    (h1 : (rdA l cs fl at_).2.2 = 0) (h2 : (rdU1 l cs (rdA l cs fl at_).1 (rdA l cs fl at_).2.1).2.2 = 0) :
    ((acc ++ [((rdU1 l cs (rdA l cs fl at_).1 (rdA l cs fl at_).2.1).1 : Int)]) ++ (rdUs l cs k (rdA l cs fl at_).1 (rdU1 l cs (rdA l cs fl at_).1 (rdA l cs fl at_).2.1).2.1).1, (rdUs l cs k (rdA l cs fl at_).1 (rdU1 l cs (rdA l cs fl at_).1 (rdA l cs fl at_).2.1).2.1).2) = T := by
  rw [rdUs, if_pos h1, if_pos h2] at h
  rw [← h]
  simp
theorem rdUs_bad1 (l : List UInt8) (cs : List Int) (k fl at_ : Nat) (acc : List Int) {T : List Int × Nat × Int} (h : (acc ++ (rdUs l cs (k + 1) fl at_).1, (rdUs l cs (k + 1) fl at_).2) = T)
    (h1 : (rdA l cs fl at_).2.2 ≠ 0) : T.2.2 = (rdA l cs fl at_).2.2 := by
  rw [rdUs, if_neg h1] at h
  rw [← h]
theorem rdUs_bad2 (l : List UInt8) (cs : List Int) (k fl at_ : Nat) (acc : List Int) {T : List Int × Nat × Int} (h : (acc ++ (rdUs l cs (k + 1) fl at_).1, (rdUs l cs (k + 1) fl at_).2) = T)
    (h1 : (rdA l cs fl at_).2.2 = 0) (h2 : (rdU1 l cs (rdA l cs fl at_).1 (rdA l cs fl at_).2.1).2.2 ≠ 0) : T.2.2 = (rdU1 l cs (rdA l cs fl at_).1 (rdA l cs fl at_).2.1).2.2 := by
  rw [rdUs, if_pos h1, if_neg h2] at h
  rw [← h]

/-- What getUnits hands back. -/
def GotU (base : Nat) (A : Option Addr) (n c : Nat) (T : List Int × Nat × Int) (e : Ending) (w' : World) : Prop :=
  (T.2.2 ≠ 0 ∧ ∃ x : Nat, e = .returned (.tuple #[.slice none 0 0, cur A n c x, .int .i64 T.2.2])) ∨
  (T.2.2 = 0 ∧ ∃ v k, e = .returned (.tuple #[v, cur A n c T.2.1, .int .i64 0]) ∧ w'.ownsRow base 21 1 v k (T.1.map rv) ∧ k ≤ 1000)

set_option maxHeartbeats 8000000 in
set_option maxRecDepth 100000 in
theorem getUnits_any {w : World} {B n c at_ n' c' : Nat} {A A' : Option Addr} {l : List UInt8} {cs : List Int} (h : Rd w B 1 A n (l.map bv)) (hC : CutS w B A' n' cs) (hnc : n ≤ c) (hn : n ≤ 1000000000000000000) (hB : B ≤ w.heap.size) (ha : at_ ≤ n) (hna : ∀ x : Int, cs.contains x = true → cs.contains (x + 1) = false) :
    Calls Tryz.prog 92 #[cur A n c at_, .slice A' n' c'] w fun e w' => GotU w.heap.size A n c (rdAll l cs at_) e w' ∧ Below w.heap.size w w' := by
  have hl := h.blen
  have hbel0 := two_below w (.cells #[.slice A n c, .int .i64 at_] 99) (.cells #[.slice none 0 0, .int .i64 0] 99)
  have hU := Lib.hid (fun (W : World) (hb : Below w.heap.size w W) => u16_any (at_ := (at_ : Int)) (h.belowMono hb hB) hnc hn (Nat.le_trans hB hb.size))
  by_cases h1 : at_ + 1 < n
  · obtain ⟨e1, e2, e3⟩ := u16_in hl h1
    have hU2 := hU.out
    rw [e1, e2, e3] at hU2
    clear hU e1 e2 e3
    obtain ⟨p2, hp2⟩ : ∃ p2, at_ + 2 = p2 := ⟨_, rfl⟩
    rw [hp2] at hU2
    have HU := Lib.hid hU2
    clear hU2
    have eR : rdAll l cs at_ = if 1000 < (l.getD at_ 0).toNat + 256 * (l.getD (at_ + 1) 0).toNat then ([], 0, 4) else if (rdF l (at_ + 2)).2.2 = 0 then rdUs l cs ((l.getD at_ 0).toNat + 256 * (l.getD (at_ + 1) 0).toNat) (rdF l (at_ + 2)).1 (rdF l (at_ + 2)).2.1 else ([], 0, (rdF l (at_ + 2)).2.2) := by unfold rdAll; rw [if_pos (by omega)]
    rw [hp2] at eR
    rw [eR]
    clear eR
    generalize (l.getD at_ 0).toNat + 256 * (l.getD (at_ + 1) 0).toNat = K at *
    by_cases hK : 1000 < K
    · rw [if_pos hK]
      clear hC h hna
      unfold cur at *
      go_enter Tryz.func92, Tryz.ntmps92
      go_wp2_with fail
      refine (HU.out _ hbel0).mono ?_
      rintro e w1 ⟨rfl, hb1⟩
      obtain ⟨k2, k5, hbel, s1⟩ := two_boxes hb1
      clear HU
      have hK' : (1000 : Int) < (K : Int) := by omega
      have z0 := k2.frozen 0
      have z1 := k2.frozen 1
      have f0 := k2.cell 0
      have f1 := k2.cell 1
      have k2n : Bk ((w1.setCell ⟨w.heap.size, 0, none⟩ (.slice A n c)).setCell ⟨w.heap.size, 1, none⟩ (.int .i64 (p2 : Int))) w.heap.size 99 #[.slice A n c, .int .i64 (p2 : Int)] := by
        have := (k2.set_ 0 (.slice A n c)).set_ 1 (.int .i64 (p2 : Int))
        simpa using this
      have k5n : Bk ((w1.setCell ⟨w.heap.size, 0, none⟩ (.slice A n c)).setCell ⟨w.heap.size, 1, none⟩ (.int .i64 (p2 : Int))) (w.heap.size + 1) 99 #[.slice none 0 0, .int .i64 0] := (k5.setOther (by simp) _).setOther (by simp) _
      have hbeln := (hbel.setCell (p := ⟨w.heap.size, 0, none⟩) (Nat.le_refl _) (.slice A n c)).setCell (p := ⟨w.heap.size, 1, none⟩) (Nat.le_refl _) (.int .i64 (p2 : Int))
      go_wp2
      clear z0 z1 f0 f1
      have q0 := k2n.cell 0
      have q1 := k2n.cell 1
      have d0 := k5n.cell 0
      have d1 := k5n.cell 1
      have y0 := k5n.frozen 0
      have y1 := k5n.frozen 1
      go_region
      all_goals
        go_wp2
        exact bodyPost_ret (v := .tuple #[.slice none 0 0, .agg #[.slice A n c, .int .i64 (p2 : Int)], .int .i64 4]) (by simp [results, Tryz.results92, go_sem, d0, d1]) rfl ⟨.inl ⟨by decide, p2, rfl⟩, ((hbeln.setCell (by simp) _).setCell (by simp) _).drew⟩
    · rw [if_neg hK]
      have hK' : ¬ (1000 : Int) < (K : Int) := by omega
      have HF := Lib.hid (fun (W : World) (hb : Below w.heap.size w W) => getFlags_any (at_ := p2) (h.belowMono hb hB) hnc hn (Nat.le_trans hB hb.size) (by omega))
      have hle := rdF_le l p2 (by omega)
      generalize hRF : rdF l p2 = RF at *
      obtain ⟨fl, a1, e1⟩ := RF
      simp only at *
      by_cases he1 : e1 = 0
      · subst he1
        rw [if_pos rfl]
        obtain ⟨hle1, hfl⟩ := hle
        obtain ⟨T, hT⟩ : ∃ T, rdUs l cs K fl a1 = T := ⟨_, rfl⟩
        rw [hT]
        have HT := Lib.hid hT
        clear hT hRF
        have HA := Lib.hid (fun (W : World) (fl at_ : Nat) (hb : Below w.heap.size w W) (ha : at_ ≤ n) => anew_any (fl := fl) (c' := c') (h.belowMono hb hB) (hC.belowMono hb hB) hnc hn (Nat.le_trans hB hb.size) ha (fun hx => by have := hna _ hx; simpa using this))
        have HN := Lib.hid (fun (W : World) (fl at_ : Nat) (hb : Below w.heap.size w W) (ha : at_ ≤ n) (hf : fl ≤ 1) => getUnit_any (c' := c') (h.belowMono hb hB) (hC.belowMono hb hB) hnc hn (Nat.le_trans hB hb.size) ha hf)
        have HL := Lib.hid hl
        rw [hl] at hle1
        clear hC h hna hl h1
        unfold cur at HF HA HN ⊢
        go_enter Tryz.func92, Tryz.ntmps92
        go_wp2_with fail
        refine (HU.out _ hbel0).mono ?_
        rintro e w1 ⟨rfl, hb1⟩
        obtain ⟨k2, k5, hbel, s1⟩ := two_boxes hb1
        clear HU hb1 hbel0
        have z0 := k2.frozen 0
        have z1 := k2.frozen 1
        have f0 := k2.cell 0
        have f1 := k2.cell 1
        have k2n : Bk ((w1.setCell ⟨w.heap.size, 0, none⟩ (.slice A n c)).setCell ⟨w.heap.size, 1, none⟩ (.int .i64 (p2 : Int))) w.heap.size 99 #[.slice A n c, .int .i64 (p2 : Int)] := by
          have := (k2.set_ 0 (.slice A n c)).set_ 1 (.int .i64 (p2 : Int))
          simpa using this
        have k5n : Bk ((w1.setCell ⟨w.heap.size, 0, none⟩ (.slice A n c)).setCell ⟨w.heap.size, 1, none⟩ (.int .i64 (p2 : Int))) (w.heap.size + 1) 99 #[.slice none 0 0, .int .i64 0] := (k5.setOther (by simp) _).setOther (by simp) _
        have hbeln := (hbel.setCell (p := ⟨w.heap.size, 0, none⟩) (Nat.le_refl _) (.slice A n c)).setCell (p := ⟨w.heap.size, 1, none⟩) (Nat.le_refl _) (.int .i64 (p2 : Int))
        have q0 := k2n.cell 0
        have q1 := k2n.cell 1
        go_wp2_with fail
        clear z0 z1 f0 f1 k2 k5 hbel
        have hs2 := k2n.lt
        have hs5 := k5n.lt
        generalize hW2 : (w1.setCell ⟨w.heap.size, 0, none⟩ (.slice A n c)).setCell ⟨w.heap.size, 1, none⟩ (.int .i64 (p2 : Int)) = w2 at *
        clear hW2 w1 s1
        refine (HF.out _ hbeln).mono ?_
        rintro e w3 ⟨rfl, hb3⟩
        have k2 := k2n.below hb3 hs2
        have k5 := k5n.below hb3 hs5
        have hbel := hbeln.trans (hb3.mono hbeln.size)
        clear HF q0 q1 k2n k5n hbeln hb3 hs2 hs5
        have z0 := k2.frozen 0
        have z1 := k2.frozen 1
        have f0 := k2.cell 0
        have f1 := k2.cell 1
        have k2n : Bk ((w3.setCell ⟨w.heap.size, 0, none⟩ (.slice A n c)).setCell ⟨w.heap.size, 1, none⟩ (.int .i64 (a1 : Int))) w.heap.size 99 #[.slice A n c, .int .i64 (a1 : Int)] := by
          have := (k2.set_ 0 (.slice A n c)).set_ 1 (.int .i64 (a1 : Int))
          simpa using this
        have k5n : Bk ((w3.setCell ⟨w.heap.size, 0, none⟩ (.slice A n c)).setCell ⟨w.heap.size, 1, none⟩ (.int .i64 (a1 : Int))) (w.heap.size + 1) 99 #[.slice none 0 0, .int .i64 0] := (k5.setOther (by simp) _).setOther (by simp) _
        have hbeln := (hbel.setCell (p := ⟨w.heap.size, 0, none⟩) (Nat.le_refl _) (.slice A n c)).setCell (p := ⟨w.heap.size, 1, none⟩) (Nat.le_refl _) (.int .i64 (a1 : Int))
        go_wp2
        clear z0 z1 f0 f1 k2 k5 hbel
        generalize hW2 : (w3.setCell ⟨w.heap.size, 0, none⟩ (.slice A n c)).setCell ⟨w.heap.size, 1, none⟩ (.int .i64 (a1 : Int)) = w4 at *
        clear hW2 w3
        go_loopw [9, 10, 36] (fun s9 s10 s36 wr => ∃ (i f a q : Nat) (acc : List Int), s36 = .int .i64 i ∧ s9 = .int .i64 f ∧ i ≤ K ∧ f ≤ 1 ∧ a ≤ n ∧ q = i ∧ wr.ownsRow w.heap.size 21 1 s10 q (acc.map rv) ∧ Bk wr w.heap.size 99 #[.slice A n c, .int .i64 a] ∧ Bk wr (w.heap.size + 1) 99 #[.slice none 0 0, .int .i64 0] ∧ Below w.heap.size w wr ∧ Hid ((acc ++ (rdUs l cs (K - i) f a).1, (rdUs l cs (K - i) f a).2) = T)) (fun _ _ s36 _ => K - (Go.RowKit.intOf s36).toNat)
        case atStart => exact ⟨0, fl, a1, 0, [], rfl, rfl, by omega, hfl, hle1, rfl, World.ownsRow_nil _ _ _ _, k2n, k5n, hbeln, Lib.hid (by simpa using HT.out)⟩
        case round =>
          obtain ⟨i, f, a, q, acc, rfl, rfl, hi, hf, haa, hq, ho, hk2, hk5, hbel, HS⟩ := hrel
          have hs2 := hk2.lt
          have hs5 := hk5.lt
          by_cases hiK : i < K
          · have hi1 : (i : Int) < (K : Int) := by omega
            have HAc := HA.out wr f a hbel haa
            have HNc := HN.out
            have hleA := rdA_le l cs f a (by rw [HL.out]; exact haa) hf
            have HB1 := Lib.hid (rdUs_bad1 l cs (K - i - 1) f a acc (T := T) (by rw [show K - i - 1 + 1 = K - i by omega]; exact HS.out))
            have HB2 := Lib.hid (rdUs_bad2 l cs (K - i - 1) f a acc (T := T) (by rw [show K - i - 1 + 1 = K - i by omega]; exact HS.out))
            have HST := Lib.hid (rdUs_step l cs (K - i - 1) f a acc (T := T) (by rw [show K - i - 1 + 1 = K - i by omega]; exact HS.out))
            clear HS
            generalize rdA l cs f a = RA at *
            obtain ⟨fl1, b1, e1⟩ := RA
            simp only at HAc HB1 HB2 HST hleA
            obtain ⟨hb1n, hf1⟩ := hleA
            rw [HL.out] at hb1n
            have hleU := rdU1_le l cs fl1 b1 (by rw [HL.out]; exact hb1n)
            have HNd := Lib.hid (fun (W : World) (hb : Below w.heap.size w W) => HNc W fl1 b1 hb hb1n hf1)
            clear HNc
            generalize rdU1 l cs fl1 b1 = RU at *
            obtain ⟨u, b2, e2⟩ := RU
            simp only at HNd HB2 HST hleU
            obtain ⟨hb2n, hu⟩ := hleU
            rw [HL.out] at hb2n
            have HAd := Lib.hid HAc
            clear HAc
            have f0 := hk2.cell 0
            have f1' := hk2.cell 1
            by_cases he1 : e1 = 0
            · subst he1
              by_cases he2 : e2 = 0
              · subst he2
                have HST2 := Lib.hid (HST.out rfl rfl)
                clear HST HB1 HB2
                go_wp2_with fail
                refine HAd.out.mono ?_
                rintro e w5 ⟨rfl, hb5⟩
                clear HAd f0 f1'
                have k2 := hk2.below hb5 hs2
                have k5 := hk5.below hb5 hs5
                have o5 := own_below ho hb5
                have hbel5 := hbel.trans (hb5.mono hbel.size)
                clear ho hk2 hk5 hbel hb5 hs2 hs5
                have z0 := k2.frozen 0
                have z1 := k2.frozen 1
                have f0 := k2.cell 0
                have f1 := k2.cell 1
                have k2n : Bk ((w5.setCell ⟨w.heap.size, 0, none⟩ (.slice A n c)).setCell ⟨w.heap.size, 1, none⟩ (.int .i64 (b1 : Int))) w.heap.size 99 #[.slice A n c, .int .i64 (b1 : Int)] := by
                  have := (k2.set_ 0 (.slice A n c)).set_ 1 (.int .i64 (b1 : Int))
                  simpa using this
                have k5n : Bk ((w5.setCell ⟨w.heap.size, 0, none⟩ (.slice A n c)).setCell ⟨w.heap.size, 1, none⟩ (.int .i64 (b1 : Int))) (w.heap.size + 1) 99 #[.slice none 0 0, .int .i64 0] := (k5.setOther (by simp) _).setOther (by simp) _
                have hbeln := (hbel5.setCell (p := ⟨w.heap.size, 0, none⟩) (Nat.le_refl _) (.slice A n c)).setCell (p := ⟨w.heap.size, 1, none⟩) (Nat.le_refl _) (.int .i64 (b1 : Int))
                have hon := own_cursor o5 k2 (.slice A n c) (.int .i64 (b1 : Int))
                have q0 := k2n.cell 0
                have q1 := k2n.cell 1
                go_wp2_with fail
                clear z0 z1 f0 f1 k2 k5 hbel5 o5
                generalize hW2 : (w5.setCell ⟨w.heap.size, 0, none⟩ (.slice A n c)).setCell ⟨w.heap.size, 1, none⟩ (.int .i64 (b1 : Int)) = w6 at *
                clear hW2 w5
                have hs2 := k2n.lt
                have hs5 := k5n.lt
                refine (HNd.out _ hbeln).mono ?_
                rintro e w7 ⟨rfl, hb7⟩
                clear HNd q0 q1
                have k2 := k2n.below hb7 hs2
                have k5 := k5n.below hb7 hs5
                have o7 := own_below hon hb7
                have hbel7 := hbeln.trans (hb7.mono hbeln.size)
                clear hon k2n k5n hbeln hb7 hs2 hs5
                have z0 := k2.frozen 0
                have z1 := k2.frozen 1
                have f0 := k2.cell 0
                have f1 := k2.cell 1
                have k2n : Bk ((w7.setCell ⟨w.heap.size, 0, none⟩ (.slice A n c)).setCell ⟨w.heap.size, 1, none⟩ (.int .i64 (b2 : Int))) w.heap.size 99 #[.slice A n c, .int .i64 (b2 : Int)] := by
                  have := (k2.set_ 0 (.slice A n c)).set_ 1 (.int .i64 (b2 : Int))
                  simpa using this
                have k5n : Bk ((w7.setCell ⟨w.heap.size, 0, none⟩ (.slice A n c)).setCell ⟨w.heap.size, 1, none⟩ (.int .i64 (b2 : Int))) (w.heap.size + 1) 99 #[.slice none 0 0, .int .i64 0] := (k5.setOther (by simp) _).setOther (by simp) _
                have hbeln := (hbel7.setCell (p := ⟨w.heap.size, 0, none⟩) (Nat.le_refl _) (.slice A n c)).setCell (p := ⟨w.heap.size, 1, none⟩) (Nat.le_refl _) (.int .i64 (b2 : Int))
                have hon := own_cursor o7 k2 (.slice A n c) (.int .i64 (b2 : Int))
                have hw32 : IntKind.i32.wrap (u : Int) = (u : Int) := IntWalk.i32_in _ (by omega)
                have hfr : Rd (((w7.setCell ⟨w.heap.size, 0, none⟩ (.slice A n c)).setCell ⟨w.heap.size, 1, none⟩ (.int .i64 (b2 : Int))).alloc (.cells #[.int .i32 (u : Int)] 21)) (w7.heap.size + 1) 1 (some ⟨w7.heap.size, 0, none⟩) 1 [.int .i32 (u : Int)] := by
                  have := Rd.fresh ((w7.setCell ⟨w.heap.size, 0, none⟩ (.slice A n c)).setCell ⟨w.heap.size, 1, none⟩ (.int .i64 (b2 : Int))) 21 1 1 [.int .i32 (u : Int)] rfl
                  simpa using this
                go_wp2_with (at_builtin; refine wpList_app runesRow rfl (.tmp 62) (.tmp 65) rfl rfl rfl (hon.alloc _) hfr ?_ ?_ ?_ ?_ ?_)
                · intro u hu; simp at hu; subst hu; rfl
                · unfold maxLen; omega
                · omega
                · exact Nat.le_trans hbeln.size (by simp)
                intro v9 w9 o9 g9 b9
                have k2z := g9.bk (hon.alloc _) (k2n.alloc _) (by decide)
                have k5z := g9.bk (hon.alloc _) (k5n.alloc _) (by decide)
                have hbel9 := (hbeln.alloc hbeln.size _).trans b9
                have o9' : w9.ownsRow w.heap.size 21 1 v9 (i + 1) ((acc ++ [(u : Int)]).map rv) := by
                  rw [List.map_append, List.map_cons, List.map_nil]
                  exact o9
                clear o9 g9 b9 hon k2n k5n hbeln hw32 z0 z1 f0 f1 k2 k5 hbel7 o7
                go_wp2
                go_roundw
                case rel => exact ⟨i + 1, fl1, b2, i + 1, acc ++ [(u : Int)], by go_num, rfl, by omega, hf1, hb2n, by omega, o9', k2z, k5z, hbel9, Lib.hid (by rw [show K - (i + 1) = K - i - 1 by omega]; exact HST2.out)⟩
                case measure => simp [Go.RowKit.intOf]; omega
              · have HE := Lib.hid (HB2.out rfl he2)
                clear HST HB1 HB2
                go_wp2_with fail
                refine HAd.out.mono ?_
                rintro e w5 ⟨rfl, hb5⟩
                clear HAd f0 f1'
                have k2 := hk2.below hb5 hs2
                have k5 := hk5.below hb5 hs5
                have hbel5 := hbel.trans (hb5.mono hbel.size)
                clear ho hk2 hk5 hbel hb5 hs2 hs5
                have z0 := k2.frozen 0
                have z1 := k2.frozen 1
                have f0 := k2.cell 0
                have f1 := k2.cell 1
                have k2n : Bk ((w5.setCell ⟨w.heap.size, 0, none⟩ (.slice A n c)).setCell ⟨w.heap.size, 1, none⟩ (.int .i64 (b1 : Int))) w.heap.size 99 #[.slice A n c, .int .i64 (b1 : Int)] := by
                  have := (k2.set_ 0 (.slice A n c)).set_ 1 (.int .i64 (b1 : Int))
                  simpa using this
                have k5n : Bk ((w5.setCell ⟨w.heap.size, 0, none⟩ (.slice A n c)).setCell ⟨w.heap.size, 1, none⟩ (.int .i64 (b1 : Int))) (w.heap.size + 1) 99 #[.slice none 0 0, .int .i64 0] := (k5.setOther (by simp) _).setOther (by simp) _
                have hbeln := (hbel5.setCell (p := ⟨w.heap.size, 0, none⟩) (Nat.le_refl _) (.slice A n c)).setCell (p := ⟨w.heap.size, 1, none⟩) (Nat.le_refl _) (.int .i64 (b1 : Int))
                have q0 := k2n.cell 0
                have q1 := k2n.cell 1
                go_wp2_with fail
                clear z0 z1 f0 f1 k2 k5 hbel5
                generalize hW2 : (w5.setCell ⟨w.heap.size, 0, none⟩ (.slice A n c)).setCell ⟨w.heap.size, 1, none⟩ (.int .i64 (b1 : Int)) = w6 at *
                clear hW2 w5
                have hs2 := k2n.lt
                have hs5 := k5n.lt
                refine (HNd.out _ hbeln).mono ?_
                rintro e w7 ⟨rfl, hb7⟩
                clear HNd q0 q1
                have k2 := k2n.below hb7 hs2
                have k5 := k5n.below hb7 hs5
                have hbel7 := hbeln.trans (hb7.mono hbeln.size)
                clear k2n k5n hbeln hb7 hs2 hs5
                have z0 := k2.frozen 0
                have z1 := k2.frozen 1
                have f0 := k2.cell 0
                have f1 := k2.cell 1
                have k2n : Bk ((w7.setCell ⟨w.heap.size, 0, none⟩ (.slice A n c)).setCell ⟨w.heap.size, 1, none⟩ (.int .i64 (b2 : Int))) w.heap.size 99 #[.slice A n c, .int .i64 (b2 : Int)] := by
                  have := (k2.set_ 0 (.slice A n c)).set_ 1 (.int .i64 (b2 : Int))
                  simpa using this
                have k5n : Bk ((w7.setCell ⟨w.heap.size, 0, none⟩ (.slice A n c)).setCell ⟨w.heap.size, 1, none⟩ (.int .i64 (b2 : Int))) (w.heap.size + 1) 99 #[.slice none 0 0, .int .i64 0] := (k5.setOther (by simp) _).setOther (by simp) _
                have hbeln := (hbel7.setCell (p := ⟨w.heap.size, 0, none⟩) (Nat.le_refl _) (.slice A n c)).setCell (p := ⟨w.heap.size, 1, none⟩) (Nat.le_refl _) (.int .i64 (b2 : Int))
                go_wp2
                clear z0 z1 f0 f1 k2 k5 hbel7
                have q0 := k2n.cell 0
                have q1 := k2n.cell 1
                have d0 := k5n.cell 0
                have d1 := k5n.cell 1
                have y0 := k5n.frozen 0
                have y1 := k5n.frozen 1
                go_region
                all_goals
                  go_wp2
                  exact bodyPost_ret (v := .tuple #[.slice none 0 0, .agg #[.slice A n c, .int .i64 (b2 : Int)], .int .i64 e2]) (by simp [results, Tryz.results92, go_sem, d0, d1]) rfl ⟨.inl ⟨by rw [HE.out]; exact he2, b2, by rw [HE.out]; rfl⟩, ((hbeln.setCell (by simp) _).setCell (by simp) _).drew⟩
            · have HE := Lib.hid (HB1.out he1)
              clear HST HB1 HB2 HNd
              go_wp2_with fail
              refine HAd.out.mono ?_
              rintro e w5 ⟨rfl, hb5⟩
              clear HAd f0 f1'
              have k2 := hk2.below hb5 hs2
              have k5 := hk5.below hb5 hs5
              have hbel5 := hbel.trans (hb5.mono hbel.size)
              clear ho hk2 hk5 hbel hb5 hs2 hs5
              have z0 := k2.frozen 0
              have z1 := k2.frozen 1
              have f0 := k2.cell 0
              have f1 := k2.cell 1
              have k2n : Bk ((w5.setCell ⟨w.heap.size, 0, none⟩ (.slice A n c)).setCell ⟨w.heap.size, 1, none⟩ (.int .i64 (b1 : Int))) w.heap.size 99 #[.slice A n c, .int .i64 (b1 : Int)] := by
                have := (k2.set_ 0 (.slice A n c)).set_ 1 (.int .i64 (b1 : Int))
                simpa using this
              have k5n : Bk ((w5.setCell ⟨w.heap.size, 0, none⟩ (.slice A n c)).setCell ⟨w.heap.size, 1, none⟩ (.int .i64 (b1 : Int))) (w.heap.size + 1) 99 #[.slice none 0 0, .int .i64 0] := (k5.setOther (by simp) _).setOther (by simp) _
              have hbeln := (hbel5.setCell (p := ⟨w.heap.size, 0, none⟩) (Nat.le_refl _) (.slice A n c)).setCell (p := ⟨w.heap.size, 1, none⟩) (Nat.le_refl _) (.int .i64 (b1 : Int))
              go_wp2
              clear z0 z1 f0 f1 k2 k5 hbel5
              have q0 := k2n.cell 0
              have q1 := k2n.cell 1
              have d0 := k5n.cell 0
              have d1 := k5n.cell 1
              have y0 := k5n.frozen 0
              have y1 := k5n.frozen 1
              go_region
              all_goals
                go_wp2
                exact bodyPost_ret (v := .tuple #[.slice none 0 0, .agg #[.slice A n c, .int .i64 (b1 : Int)], .int .i64 e1]) (by simp [results, Tryz.results92, go_sem, d0, d1]) rfl ⟨.inl ⟨by rw [HE.out]; exact he1, b1, by rw [HE.out]; rfl⟩, ((hbeln.setCell (by simp) _).setCell (by simp) _).drew⟩
          · obtain rfl : i = K := by omega
            have hi1 : ¬ (i : Int) < (i : Int) := by omega
            have hS := HS.out
            rw [Nat.sub_self, rdUs] at hS
            simp only [List.append_nil] at hS
            subst hS
            clear HS HT HA HN
            have q0 := hk2.cell 0
            have q1 := hk2.cell 1
            have d0 := hk5.cell 0
            have d1 := hk5.cell 1
            have y0 := hk5.frozen 0
            have y1 := hk5.frozen 1
            go_wp2
            go_region
            all_goals
              go_wp2
              exact bodyPost_ret (v := .tuple #[u10, .agg #[.slice A n c, .int .i64 (a : Int)], .int .i64 0]) (by simp [results, Tryz.results92, go_sem, d0, d1]) rfl ⟨.inr ⟨rfl, _, q, rfl, own_drew (own_cursor ho hk5 _ _), by omega⟩, ((hbel.setCell (by simp) _).setCell (by simp) _).drew⟩
      · rw [if_neg he1]
        clear hC h hna
        unfold cur at *
        go_enter Tryz.func92, Tryz.ntmps92
        go_wp2_with fail
        refine (HU.out _ hbel0).mono ?_
        rintro e w1 ⟨rfl, hb1⟩
        obtain ⟨k2, k5, hbel, s1⟩ := two_boxes hb1
        clear HU hb1 hbel0
        have z0 := k2.frozen 0
        have z1 := k2.frozen 1
        have f0 := k2.cell 0
        have f1 := k2.cell 1
        have k2n : Bk ((w1.setCell ⟨w.heap.size, 0, none⟩ (.slice A n c)).setCell ⟨w.heap.size, 1, none⟩ (.int .i64 (p2 : Int))) w.heap.size 99 #[.slice A n c, .int .i64 (p2 : Int)] := by
          have := (k2.set_ 0 (.slice A n c)).set_ 1 (.int .i64 (p2 : Int))
          simpa using this
        have k5n : Bk ((w1.setCell ⟨w.heap.size, 0, none⟩ (.slice A n c)).setCell ⟨w.heap.size, 1, none⟩ (.int .i64 (p2 : Int))) (w.heap.size + 1) 99 #[.slice none 0 0, .int .i64 0] := (k5.setOther (by simp) _).setOther (by simp) _
        have hbeln := (hbel.setCell (p := ⟨w.heap.size, 0, none⟩) (Nat.le_refl _) (.slice A n c)).setCell (p := ⟨w.heap.size, 1, none⟩) (Nat.le_refl _) (.int .i64 (p2 : Int))
        have q0 := k2n.cell 0
        have q1 := k2n.cell 1
        go_wp2_with fail
        clear z0 z1 f0 f1 k2 k5 hbel
        have hs2 := k2n.lt
        have hs5 := k5n.lt
        generalize hW2 : (w1.setCell ⟨w.heap.size, 0, none⟩ (.slice A n c)).setCell ⟨w.heap.size, 1, none⟩ (.int .i64 (p2 : Int)) = w2 at *
        clear hW2 w1 s1
        refine (HF.out _ hbeln).mono ?_
        rintro e w3 ⟨rfl, hb3⟩
        have k2 := k2n.below hb3 hs2
        have k5 := k5n.below hb3 hs5
        have hbel := hbeln.trans (hb3.mono hbeln.size)
        clear HF q0 q1 k2n k5n hbeln hb3 hs2 hs5
        have z0 := k2.frozen 0
        have z1 := k2.frozen 1
        have f0 := k2.cell 0
        have f1 := k2.cell 1
        have k2n : Bk ((w3.setCell ⟨w.heap.size, 0, none⟩ (.slice A n c)).setCell ⟨w.heap.size, 1, none⟩ (.int .i64 (a1 : Int))) w.heap.size 99 #[.slice A n c, .int .i64 (a1 : Int)] := by
          have := (k2.set_ 0 (.slice A n c)).set_ 1 (.int .i64 (a1 : Int))
          simpa using this
        have k5n : Bk ((w3.setCell ⟨w.heap.size, 0, none⟩ (.slice A n c)).setCell ⟨w.heap.size, 1, none⟩ (.int .i64 (a1 : Int))) (w.heap.size + 1) 99 #[.slice none 0 0, .int .i64 0] := (k5.setOther (by simp) _).setOther (by simp) _
        have hbeln := (hbel.setCell (p := ⟨w.heap.size, 0, none⟩) (Nat.le_refl _) (.slice A n c)).setCell (p := ⟨w.heap.size, 1, none⟩) (Nat.le_refl _) (.int .i64 (a1 : Int))
        go_wp2
        clear z0 z1 f0 f1 k2 k5 hbel
        have q0 := k2n.cell 0
        have q1 := k2n.cell 1
        have d0 := k5n.cell 0
        have d1 := k5n.cell 1
        have y0 := k5n.frozen 0
        have y1 := k5n.frozen 1
        go_region
        all_goals
          go_wp2
          exact bodyPost_ret (v := .tuple #[.slice none 0 0, .agg #[.slice A n c, .int .i64 (a1 : Int)], .int .i64 e1]) (by simp [results, Tryz.results92, go_sem, d0, d1]) rfl ⟨.inl ⟨he1, a1, rfl⟩, ((hbeln.setCell (by simp) _).setCell (by simp) _).drew⟩
  · obtain ⟨e1, e2, e3⟩ := u16_end hl ha h1
    have hU2 := hU.out
    rw [e1, e2, e3] at hU2
    clear hU e1 e2 e3
    have HU := Lib.hid hU2
    clear hU2
    have eR : rdAll l cs at_ = ([], 0, 5) := by unfold rdAll; rw [if_neg (by omega)]
    rw [eR]
    clear eR hC h hna
    unfold cur at *
    go_enter Tryz.func92, Tryz.ntmps92
    go_wp2_with fail
    refine (HU.out _ hbel0).mono ?_
    rintro e w1 ⟨rfl, hb1⟩
    obtain ⟨k2, k5, hbel, s1⟩ := two_boxes hb1
    clear HU
    have z0 := k2.frozen 0
    have z1 := k2.frozen 1
    have f0 := k2.cell 0
    have f1 := k2.cell 1
    have k2n : Bk ((w1.setCell ⟨w.heap.size, 0, none⟩ (.slice A n c)).setCell ⟨w.heap.size, 1, none⟩ (.int .i64 (at_ : Int))) w.heap.size 99 #[.slice A n c, .int .i64 (at_ : Int)] := by
      have := (k2.set_ 0 (.slice A n c)).set_ 1 (.int .i64 (at_ : Int))
      simpa using this
    have k5n : Bk ((w1.setCell ⟨w.heap.size, 0, none⟩ (.slice A n c)).setCell ⟨w.heap.size, 1, none⟩ (.int .i64 (at_ : Int))) (w.heap.size + 1) 99 #[.slice none 0 0, .int .i64 0] := (k5.setOther (by simp) _).setOther (by simp) _
    have hbeln := (hbel.setCell (p := ⟨w.heap.size, 0, none⟩) (Nat.le_refl _) (.slice A n c)).setCell (p := ⟨w.heap.size, 1, none⟩) (Nat.le_refl _) (.int .i64 (at_ : Int))
    go_wp2
    clear z0 z1 f0 f1
    have q0 := k2n.cell 0
    have q1 := k2n.cell 1
    have d0 := k5n.cell 0
    have d1 := k5n.cell 1
    have y0 := k5n.frozen 0
    have y1 := k5n.frozen 1
    go_region
    all_goals
      go_wp2
      exact bodyPost_ret (v := .tuple #[.slice none 0 0, .agg #[.slice A n c, .int .i64 (at_ : Int)], .int .i64 5]) (by simp [results, Tryz.results92, go_sem, d0, d1]) rfl ⟨.inl ⟨by decide, at_, rfl⟩, ((hbeln.setCell (by simp) _).setCell (by simp) _).drew⟩
end Go.Proofs.YtllcecnkbndokaaGreatDoor
