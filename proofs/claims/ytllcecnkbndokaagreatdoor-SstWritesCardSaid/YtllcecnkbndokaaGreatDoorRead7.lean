/- sst.read of bytes that are a table's by its contract. Conditions: the bytes and the cuts read as such; no cut right behind another one, none below eight; all texts are read. -/
import Derived.Test.YtllcecnkbndokaaGreatDoorReadT
namespace Go.Proofs.YtllcecnkbndokaaGreatDoor
open Go.RowKit Go.Lib

/-- A record's bytes and cuts that are a table. -/
structure IsTab (b : List UInt8) (cs : List Int) (L : List (List UInt8)) (u : Int) : Prop where
  front : ∃ q, b = lowB u.toNat 4 ++ (lowB L.length 4 ++ q)
  uses : 0 ≤ u ∧ u < 4294967296
  few : L.length ≤ 1000
  low : ∀ x ∈ cs, 8 ≤ x
  apart : cs.Pairwise fun x y => x + 2 ≤ y
  all : rdTs b cs L.length 8 = (L, b.length, 0)
theorem tk_in {l p q r : List UInt8} {at_ : Nat} (hl : l = p ++ (q ++ r)) (hp : p.length = at_) (hq : q.length = 4) : tkL l at_ 4 = q ∧ tkAt at_ 4 l.length = ((at_ + 4 : Nat) : Int) ∧ tkE at_ 4 l.length = 0 := by
  have hlen : at_ + 4 ≤ l.length := by rw [hl]; simp; omega
  have e : tkE (at_ : Int) 4 l.length = 0 := by
    unfold tkE stB
    rw [if_neg (by rw [decide_eq_true (by omega)]; simp), if_neg (by omega)]
  refine ⟨?_, ?_, e⟩
  · unfold tkL
    rw [if_pos e, Int.toNat_natCast, hl, List.drop_append_of_le_length (by omega), List.drop_eq_nil_of_le (by omega), List.nil_append]
    show List.take 4 _ = _
    rw [List.take_append_of_le_length (by omega), List.take_of_length_le (by omega)]
  · unfold tkAt
    rw [if_pos e]
    omega
theorem low_num {v : Nat} (h : v < 4294967296) : numN (lowB v 4) = v := by rw [numN_lowB]; exact Nat.mod_eq_of_lt h

set_option maxHeartbeats 16000000 in
set_option maxRecDepth 100000 in
theorem read_good {w : World} {B n c n' c' : Nat} {A A' : Option Addr} {b : List UInt8} {cs : List Int} {L : List (List UInt8)} {u at_ : Int} (h : Rd w B 1 A n (b.map bv)) (hC : CutS w B A' n' cs) (hnc : n ≤ c) (hn : n ≤ 100000000) (hB : B ≤ w.heap.size) (hT : IsTab b cs L u) :
    Calls Tryz.prog 33 #[.agg #[.int .i64 252, .slice A n c, .slice A' n' c', .int .i64 at_]] w fun e w' => ∃ xv, e = .returned (.tuple #[.agg #[xv, .int .i64 u], .int .i64 0]) ∧ w'.ownsRow w.heap.size 9 1 xv L.length (L.map tv) ∧ Below w.heap.size w w' := by
  have hl := h.blen
  have hb4 : Below w.heap.size w ((((w.alloc (.cells #[.int .i64 252, .slice A n c, .slice A' n' c', .int .i64 at_] 30)).alloc (.cells #[.slice none 0 0, .int .i64 0] 34)).alloc (.cells #[.slice none 0 0, .int .i64 0] 34)).alloc (.cells #[.slice A n c, .int .i64 0] 99)) := ((((Below.refl w.heap.size w).alloc (Nat.le_refl _) _).alloc (by simp) _).alloc (by simp; omega) _).alloc (by simp; omega) _
  obtain ⟨q, hq⟩ := hT.front
  obtain ⟨hu0, hu1⟩ := hT.uses
  have hm := hT.few
  obtain ⟨u1, u2, u3⟩ := tk_in (l := b) (p := []) (q := lowB u.toNat 4) (at_ := 0) (by rw [List.nil_append]; exact hq) rfl (lowB_len _ _)
  obtain ⟨x1, x2, x3⟩ := tk_in (l := b) (p := lowB u.toNat 4) (q := lowB L.length 4) (at_ := 4) hq (lowB_len _ _) (lowB_len _ _)
  have hun : ((u.toNat : Nat) : Int) = u := by omega
  have hlen8 : 8 ≤ n := by rw [← hl, hq]; simp [lowB_len]; omega
  have hCu := hC.up
  have hCn := hC.few
  have HU0 := Lib.hid (fun (W : World) (hb : Below w.heap.size w W) => by
    have := u32_any (w := W) (c := c) (at_ := ((0 : Nat) : Int)) (h.belowMono hb hB) hnc (by omega) (Nat.le_trans hB hb.size)
    rw [← hl, u1, u2, u3, low_num (by omega), hun] at this
    rw [hl] at this
    exact this)
  have HU1 := Lib.hid (fun (W : World) (hb : Below w.heap.size w W) => by
    have := u32_any (w := W) (c := c) (at_ := ((4 : Nat) : Int)) (h.belowMono hb hB) hnc (by omega) (Nat.le_trans hB hb.size)
    rw [← hl, x1, x2, x3, low_num (by omega)] at this
    rw [hl] at this
    exact this)
  have hall := hT.all
  rw [hl] at hall
  have HRT := Lib.hid (fun (W : World) (A8 : Option Addr) (c8 : Nat) (hb : Below w.heap.size w W) (hC8 : CutS W W.heap.size A8 n' cs) => readTexts_good (w := W) (c := c) (c' := c8) (at_ := 8) ((h.belowMono hb hB).mono (Nat.le_trans hB hb.size)) hC8 hnc hn (Nat.le_refl _) hlen8 (apart_no hT.apart) (by omega) rfl hall)
  have HEN := Lib.hid (fun (W : World) => by
    have := end_any (w := W) (n := n) (c := c) (at_ := (n : Int)) (A := A) (by omega)
    rw [show endE (n : Int) n = 0 by unfold endE stB; rw [if_neg (by simp), if_neg (by omega)]] at this
    exact this)
  have HCL := Lib.hid (cloneInts_any (c := c') (hC.belowMono hb4 hB))
  have hcl := hC.len
  have hlow := hT.low
  clear hT hall hq u1 u2 u3 x1 x2 x3 hC h
  go_enter Tryz.func33, Tryz.ntmps33
  go_wp2_with fail
  refine wp_scope_fwd 0 rfl ?_
  go_wp2_with fail
  refine HCL.out.mono ?_
  rintro e w1 ⟨v8, rfl, o8, hb⟩
  obtain ⟨k1, k2, k3, k4, hb', s1⟩ := four_boxes hb
  have hbs := hb.size
  have o8' := own_mono o8 (show w.heap.size + 4 ≤ _ by simp)
  clear HCL hb o8 hb4 hbs k1
  have HSO := Lib.hid (sortInts_any o8' hCu hCn)
  go_wp2_with fail
  refine HSO.out.mono ?_
  rintro e w2 ⟨rfl, o9, hg⟩
  have hbS : Below (w.heap.size + 4) w1 w2 := (Below.refl _ _).grown hg s1 (fun i hi => (o8'.lt i hi).1)
  have j2 := k2.below hbS (by omega)
  have j3 := k3.below hbS (by omega)
  have j4 := k4.below hbS (by omega)
  have hb2 : Below w.heap.size w w2 := hb'.trans (hbS.mono (by omega))
  have s2 : w.heap.size + 4 ≤ w2.heap.size := Nat.le_trans s1 hbS.size
  clear HSO k2 k3 k4 hg o8' hbS hb' s1
  obtain ⟨A8, c8, rfl, hc8, -, -⟩ := own_form o9
  have hcase : n' = 0 ∨ (0 < n' ∧ ∃ g y, A8 = some ⟨g, 0, none⟩ ∧ w2.cell? ⟨g, 0, none⟩ = some (.int .i64 y) ∧ ¬ y < 8) := by
    rcases Nat.eq_zero_or_pos n' with h0 | h0
    · exact .inl h0
    · refine .inr ⟨h0, ?_⟩
      rcases o9.2 with ⟨-, h1⟩ | ⟨g, cap, cur, hv, -⟩
      · omega
      · injection hv with hA
        subst hA
        obtain ⟨y, hy⟩ : ∃ y, cs[0]? = some y := ⟨_, List.getElem?_eq_getElem (by omega)⟩
        have hcell := o9.cells (g := g) rfl 0 (iv y) (by rw [List.getElem?_map, hy]; rfl)
        have hy8 := hlow y (List.mem_of_getElem? hy)
        exact ⟨g, y, rfl, hcell, by omega⟩
  clear hlow
  have c40 := j4.cell 0
  have c41 := j4.cell 1
  have z40 := j4.frozen 0
  have z41 := j4.frozen 1
  have z30 := j3.frozen 0
  have z31 := j3.frozen 1
  have c30 := j3.cell 0
  have c31 := j3.cell 1
  rcases hcase with h0 | ⟨h0, g8, y, rfl, hcy, hy8⟩
  · subst h0
    go_wp2_with fail
    refine (HU0.out w2 hb2).mono ?_
    rintro e w3 ⟨rfl, b3⟩
    have o3 := own_below o9 b3
    have m2 := j2.below b3 j2.lt
    have m3 := j3.below b3 j3.lt
    have m4 := j4.below b3 j4.lt
    have hb3 := hb2.trans (b3.mono hb2.size)
    clear c40 c41 z40 z41 z30 z31 c30 c31 j2 j3 j4 o9 b3 HU0
    have p0 := m3.cell 0
    have zp0 := m3.frozen 0
    have p1 := m3.cell 1
    have zp1 := m3.frozen 1
    have q0 := m4.cell 0
    have zq0 := m4.frozen 0
    have q1 := m4.cell 1
    have zq1 := m4.frozen 1
    go_wp2_with fail
    have hK : Keep (fun i => i = w.heap.size + 1 + 1 ∨ i = w.heap.size + 1 + 1 + 1) w3 (((w3.setCell ⟨w.heap.size + 1 + 1, 1, none⟩ (.int .i64 u)).setCell ⟨w.heap.size + 1 + 1 + 1, 0, none⟩ (.slice A n c)).setCell ⟨w.heap.size + 1 + 1 + 1, 1, none⟩ (.int .i64 ((4 : Nat) : Int))) := ((((Keep.refl (fun i => i = w.heap.size + 1 + 1 ∨ i = w.heap.size + 1 + 1 + 1) w3).setCell (p := ⟨w.heap.size + 1 + 1, 1, none⟩) (fun _ => .inl rfl) (.int .i64 u)).setCell (p := ⟨w.heap.size + 1 + 1 + 1, 0, none⟩) (fun _ => .inr rfl) (.slice A n c)).setCell (p := ⟨w.heap.size + 1 + 1 + 1, 1, none⟩) (fun _ => .inr rfl) (.int .i64 ((4 : Nat) : Int)))
    have m3b := (((m3.set_ 1 (.int .i64 u)).setOther (p := ⟨w.heap.size + 1 + 1 + 1, 0, none⟩) (by simp) (.slice A n c)).setOther (p := ⟨w.heap.size + 1 + 1 + 1, 1, none⟩) (by simp) (.int .i64 ((4 : Nat) : Int)))
    have m4b := (((m4.setOther (p := ⟨w.heap.size + 1 + 1, 1, none⟩) (by simp) (.int .i64 u)).set_ 0 (.slice A n c)).set_ 1 (.int .i64 ((4 : Nat) : Int)))
    have m2b := hK.bk m2 (by omega)
    have o3b := hK.own o3 fun i hi he => by have := (o3.lt i hi).1; omega
    have hb3b : Below w.heap.size w (((w3.setCell ⟨w.heap.size + 1 + 1, 1, none⟩ (.int .i64 u)).setCell ⟨w.heap.size + 1 + 1 + 1, 0, none⟩ (.slice A n c)).setCell ⟨w.heap.size + 1 + 1 + 1, 1, none⟩ (.int .i64 ((4 : Nat) : Int))) := keep_below hb3 hb3.size hK fun i ht => by omega
    clear p0 p1 q0 q1 zp0 zp1 zq0 zq1 m2 m3 m4 o3 hb3 hK
    generalize hW : (((w3.setCell ⟨w.heap.size + 1 + 1, 1, none⟩ (.int .i64 u)).setCell ⟨w.heap.size + 1 + 1 + 1, 0, none⟩ (.slice A n c)).setCell ⟨w.heap.size + 1 + 1 + 1, 1, none⟩ (.int .i64 ((4 : Nat) : Int))) = w4 at *
    clear hW
    have r3 : Bk w4 (w.heap.size + 1 + 1) 34 #[.slice none 0 0, .int .i64 u] := m3b
    have r4 : Bk w4 (w.heap.size + 1 + 1 + 1) 99 #[.slice A n c, .int .i64 ((4 : Nat) : Int)] := m4b
    clear m3b m4b
    refine (HU1.out w4 hb3b).mono ?_
    rintro e w5 ⟨rfl, b5⟩
    have o5 := own_below o3b b5
    have m2 := m2b.below b5 m2b.lt
    have m3 := r3.below b5 r3.lt
    have m4 := r4.below b5 r4.lt
    have hb5 := hb3b.trans (b5.mono hb3b.size)
    clear r3 r4 m2b o3b b5 HU1 hb3b
    have p0 := m3.cell 0
    have zp0 := m3.frozen 0
    have p1 := m3.cell 1
    have zp1 := m3.frozen 1
    have q0 := m4.cell 0
    have zq0 := m4.frozen 0
    have q1 := m4.cell 1
    have zq1 := m4.frozen 1
    have hm4 : ¬ (1024 : Int) < (L.length : Int) := by omega
    go_wp2_with fail
    have hK : Keep (fun i => i = w.heap.size + 1 + 1 ∨ i = w.heap.size + 1 + 1 + 1) w5 ((w5.setCell ⟨w.heap.size + 1 + 1 + 1, 0, none⟩ (.slice A n c)).setCell ⟨w.heap.size + 1 + 1 + 1, 1, none⟩ (.int .i64 ((4 + 4 : Nat) : Int))) := (((Keep.refl (fun i => i = w.heap.size + 1 + 1 ∨ i = w.heap.size + 1 + 1 + 1) w5).setCell (p := ⟨w.heap.size + 1 + 1 + 1, 0, none⟩) (fun _ => .inr rfl) (.slice A n c)).setCell (p := ⟨w.heap.size + 1 + 1 + 1, 1, none⟩) (fun _ => .inr rfl) (.int .i64 ((4 + 4 : Nat) : Int)))
    have m3b := ((m3.setOther (p := ⟨w.heap.size + 1 + 1 + 1, 0, none⟩) (by simp) (.slice A n c)).setOther (p := ⟨w.heap.size + 1 + 1 + 1, 1, none⟩) (by simp) (.int .i64 ((4 + 4 : Nat) : Int)))
    have m4b := ((m4.set_ 0 (.slice A n c)).set_ 1 (.int .i64 ((4 + 4 : Nat) : Int)))
    have m2b := hK.bk m2 (by omega)
    have o5b := hK.own o5 fun i hi he => by have := (o5.lt i hi).1; omega
    have hb5b : Below w.heap.size w ((w5.setCell ⟨w.heap.size + 1 + 1 + 1, 0, none⟩ (.slice A n c)).setCell ⟨w.heap.size + 1 + 1 + 1, 1, none⟩ (.int .i64 ((4 + 4 : Nat) : Int))) := keep_below hb5 hb5.size hK fun i ht => by omega
    clear p0 p1 q0 q1 zp0 zp1 zq0 zq1 m2 m3 m4 o5 hb5 hK
    trace_state
    generalize hW : ((w5.setCell ⟨w.heap.size + 1 + 1 + 1, 0, none⟩ (.slice A n c)).setCell ⟨w.heap.size + 1 + 1 + 1, 1, none⟩ (.int .i64 ((4 + 4 : Nat) : Int))) = w6 at *
    clear hW
    have r4 : Bk w6 (w.heap.size + 1 + 1 + 1) 99 #[.slice A n c, .int .i64 ((8 : Nat) : Int)] := m4b
    have r3 := m3b
    clear m3b m4b
    refine (HRT.out w6 (A8) c8 hb5b (cutS_own o5b hCu hCn)).mono ?_
    rintro e w7 ⟨v7, rfl, o7, b7⟩
    obtain ⟨A7, c7, rfl, -, -, -⟩ := own_form o7
    have m2 := m2b.below b7 m2b.lt
    have m3 := r3.below b7 r3.lt
    have m4 := r4.below b7 r4.lt
    have hb7 := hb5b.trans (b7.mono hb5b.size)
    have s7 := hb5b.size
    have s8 := m2b.lt
    have s9 := r3.lt
    have s10 := r4.lt
    clear r3 r4 m2b o5b b7 HRT
    have p0 := m3.cell 0
    have zp0 := m3.frozen 0
    have p1 := m3.cell 1
    have zp1 := m3.frozen 1
    have q0 := m4.cell 0
    have zq0 := m4.frozen 0
    have q1 := m4.cell 1
    have zq1 := m4.frozen 1
    go_wp2_with fail
    have hK : Keep (fun i => i = w.heap.size + 1 + 1 ∨ i = w.heap.size + 1 + 1 + 1) w7 (((w7.setCell ⟨w.heap.size + 1 + 1, 0, none⟩ (.slice A7 L.length c7)).setCell ⟨w.heap.size + 1 + 1 + 1, 0, none⟩ (.slice A n c)).setCell ⟨w.heap.size + 1 + 1 + 1, 1, none⟩ (.int .i64 n)) := ((((Keep.refl (fun i => i = w.heap.size + 1 + 1 ∨ i = w.heap.size + 1 + 1 + 1) w7).setCell (p := ⟨w.heap.size + 1 + 1, 0, none⟩) (fun _ => .inl rfl) (.slice A7 L.length c7)).setCell (p := ⟨w.heap.size + 1 + 1 + 1, 0, none⟩) (fun _ => .inr rfl) (.slice A n c)).setCell (p := ⟨w.heap.size + 1 + 1 + 1, 1, none⟩) (fun _ => .inr rfl) (.int .i64 n))
    have m3b := (((m3.set_ 0 (.slice A7 L.length c7)).setOther (p := ⟨w.heap.size + 1 + 1 + 1, 0, none⟩) (by simp) (.slice A n c)).setOther (p := ⟨w.heap.size + 1 + 1 + 1, 1, none⟩) (by simp) (.int .i64 n))
    have m2b := hK.bk m2 (by omega)
    have o7b := hK.own o7 fun i hi he => by have := (o7.lt i hi).1; omega
    have hb7b : Below w.heap.size w (((w7.setCell ⟨w.heap.size + 1 + 1, 0, none⟩ (.slice A7 L.length c7)).setCell ⟨w.heap.size + 1 + 1 + 1, 0, none⟩ (.slice A n c)).setCell ⟨w.heap.size + 1 + 1 + 1, 1, none⟩ (.int .i64 n)) := keep_below hb7 hb7.size hK fun i ht => by omega
    clear p0 p1 q0 q1 zp0 zp1 zq0 zq1 m2 m3 m4 o7 hb7 hK
    generalize hW : (((w7.setCell ⟨w.heap.size + 1 + 1, 0, none⟩ (.slice A7 L.length c7)).setCell ⟨w.heap.size + 1 + 1 + 1, 0, none⟩ (.slice A n c)).setCell ⟨w.heap.size + 1 + 1 + 1, 1, none⟩ (.int .i64 n)) = w8 at *
    clear hW
    have r3 : Bk w8 (w.heap.size + 1 + 1) 34 #[.slice A7 L.length c7, .int .i64 u] := m3b
    clear m3b
    refine (HEN.out w8).mono ?_
    rintro e w9 ⟨rfl, b9⟩
    have m2 := m2b.below b9 m2b.lt
    have m3 := r3.below b9 r3.lt
    have o9b := own_below o7b b9
    have hb9 := hb7b.trans (b9.mono hb7b.size)
    clear r3 m2b o7b b9 HEN hb7b
    have p0 := m2.cell 0
    have zp0 := m2.frozen 0
    have p1 := m2.cell 1
    have zp1 := m2.frozen 1
    have q0 := m3.cell 0
    have zq0 := m3.frozen 0
    have q1 := m3.cell 1
    have zq1 := m3.frozen 1
    go_wp2
    rw [jump_ret]
    have hK : Keep (fun i => i = w.heap.size + 1) w9 _ := ((Keep.refl (fun i => i = w.heap.size + 1) w9).setCell (p := ⟨w.heap.size + 1, 0, none⟩) (fun _ => rfl) (.slice A7 L.length c7)).setCell (p := ⟨w.heap.size + 1, 1, none⟩) (fun _ => rfl) (.int .i64 u)
    have hbF : Below w.heap.size w _ := keep_below hb9 hb9.size hK fun i ht => by omega
    have hoF := own_mono (hK.own o9b fun i hi he => by have := (o9b.lt i hi).1; omega) s7
    refine bodyPost_ret (v := .tuple #[.agg #[.slice A7 L.length c7, .int .i64 u], .int .i64 0]) (by simp [results, Tryz.results33, go_sem, p0, p1]) rfl ?_
    exact ⟨_, rfl, hoF, hbF⟩
  · have h0' : (0 : Int) < (n' : Int) := by omega
    go_wp2_with fail
    refine (HU0.out w2 hb2).mono ?_
    rintro e w3 ⟨rfl, b3⟩
    have o3 := own_below o9 b3
    have m2 := j2.below b3 j2.lt
    have m3 := j3.below b3 j3.lt
    have m4 := j4.below b3 j4.lt
    have hb3 := hb2.trans (b3.mono hb2.size)
    clear c40 c41 z40 z41 z30 z31 c30 c31 j2 j3 j4 o9 b3 HU0 hcy
    have p0 := m3.cell 0
    have zp0 := m3.frozen 0
    have p1 := m3.cell 1
    have zp1 := m3.frozen 1
    have q0 := m4.cell 0
    have zq0 := m4.frozen 0
    have q1 := m4.cell 1
    have zq1 := m4.frozen 1
    go_wp2_with fail
    have hK : Keep (fun i => i = w.heap.size + 1 + 1 ∨ i = w.heap.size + 1 + 1 + 1) w3 (((w3.setCell ⟨w.heap.size + 1 + 1, 1, none⟩ (.int .i64 u)).setCell ⟨w.heap.size + 1 + 1 + 1, 0, none⟩ (.slice A n c)).setCell ⟨w.heap.size + 1 + 1 + 1, 1, none⟩ (.int .i64 ((4 : Nat) : Int))) := ((((Keep.refl (fun i => i = w.heap.size + 1 + 1 ∨ i = w.heap.size + 1 + 1 + 1) w3).setCell (p := ⟨w.heap.size + 1 + 1, 1, none⟩) (fun _ => .inl rfl) (.int .i64 u)).setCell (p := ⟨w.heap.size + 1 + 1 + 1, 0, none⟩) (fun _ => .inr rfl) (.slice A n c)).setCell (p := ⟨w.heap.size + 1 + 1 + 1, 1, none⟩) (fun _ => .inr rfl) (.int .i64 ((4 : Nat) : Int)))
    have m3b := (((m3.set_ 1 (.int .i64 u)).setOther (p := ⟨w.heap.size + 1 + 1 + 1, 0, none⟩) (by simp) (.slice A n c)).setOther (p := ⟨w.heap.size + 1 + 1 + 1, 1, none⟩) (by simp) (.int .i64 ((4 : Nat) : Int)))
    have m4b := (((m4.setOther (p := ⟨w.heap.size + 1 + 1, 1, none⟩) (by simp) (.int .i64 u)).set_ 0 (.slice A n c)).set_ 1 (.int .i64 ((4 : Nat) : Int)))
    have m2b := hK.bk m2 (by omega)
    have o3b := hK.own o3 fun i hi he => by have := (o3.lt i hi).1; omega
    have hb3b : Below w.heap.size w (((w3.setCell ⟨w.heap.size + 1 + 1, 1, none⟩ (.int .i64 u)).setCell ⟨w.heap.size + 1 + 1 + 1, 0, none⟩ (.slice A n c)).setCell ⟨w.heap.size + 1 + 1 + 1, 1, none⟩ (.int .i64 ((4 : Nat) : Int))) := keep_below hb3 hb3.size hK fun i ht => by omega
    clear p0 p1 q0 q1 zp0 zp1 zq0 zq1 m2 m3 m4 o3 hb3 hK
    generalize hW : (((w3.setCell ⟨w.heap.size + 1 + 1, 1, none⟩ (.int .i64 u)).setCell ⟨w.heap.size + 1 + 1 + 1, 0, none⟩ (.slice A n c)).setCell ⟨w.heap.size + 1 + 1 + 1, 1, none⟩ (.int .i64 ((4 : Nat) : Int))) = w4 at *
    clear hW
    have r3 : Bk w4 (w.heap.size + 1 + 1) 34 #[.slice none 0 0, .int .i64 u] := m3b
    have r4 : Bk w4 (w.heap.size + 1 + 1 + 1) 99 #[.slice A n c, .int .i64 ((4 : Nat) : Int)] := m4b
    clear m3b m4b
    refine (HU1.out w4 hb3b).mono ?_
    rintro e w5 ⟨rfl, b5⟩
    have o5 := own_below o3b b5
    have m2 := m2b.below b5 m2b.lt
    have m3 := r3.below b5 r3.lt
    have m4 := r4.below b5 r4.lt
    have hb5 := hb3b.trans (b5.mono hb3b.size)
    clear r3 r4 m2b o3b b5 HU1 hb3b
    have p0 := m3.cell 0
    have zp0 := m3.frozen 0
    have p1 := m3.cell 1
    have zp1 := m3.frozen 1
    have q0 := m4.cell 0
    have zq0 := m4.frozen 0
    have q1 := m4.cell 1
    have zq1 := m4.frozen 1
    have hm4 : ¬ (1024 : Int) < (L.length : Int) := by omega
    go_wp2_with fail
    have hK : Keep (fun i => i = w.heap.size + 1 + 1 ∨ i = w.heap.size + 1 + 1 + 1) w5 ((w5.setCell ⟨w.heap.size + 1 + 1 + 1, 0, none⟩ (.slice A n c)).setCell ⟨w.heap.size + 1 + 1 + 1, 1, none⟩ (.int .i64 ((4 + 4 : Nat) : Int))) := (((Keep.refl (fun i => i = w.heap.size + 1 + 1 ∨ i = w.heap.size + 1 + 1 + 1) w5).setCell (p := ⟨w.heap.size + 1 + 1 + 1, 0, none⟩) (fun _ => .inr rfl) (.slice A n c)).setCell (p := ⟨w.heap.size + 1 + 1 + 1, 1, none⟩) (fun _ => .inr rfl) (.int .i64 ((4 + 4 : Nat) : Int)))
    have m3b := ((m3.setOther (p := ⟨w.heap.size + 1 + 1 + 1, 0, none⟩) (by simp) (.slice A n c)).setOther (p := ⟨w.heap.size + 1 + 1 + 1, 1, none⟩) (by simp) (.int .i64 ((4 + 4 : Nat) : Int)))
    have m4b := ((m4.set_ 0 (.slice A n c)).set_ 1 (.int .i64 ((4 + 4 : Nat) : Int)))
    have m2b := hK.bk m2 (by omega)
    have o5b := hK.own o5 fun i hi he => by have := (o5.lt i hi).1; omega
    have hb5b : Below w.heap.size w ((w5.setCell ⟨w.heap.size + 1 + 1 + 1, 0, none⟩ (.slice A n c)).setCell ⟨w.heap.size + 1 + 1 + 1, 1, none⟩ (.int .i64 ((4 + 4 : Nat) : Int))) := keep_below hb5 hb5.size hK fun i ht => by omega
    clear p0 p1 q0 q1 zp0 zp1 zq0 zq1 m2 m3 m4 o5 hb5 hK
    trace_state
    generalize hW : ((w5.setCell ⟨w.heap.size + 1 + 1 + 1, 0, none⟩ (.slice A n c)).setCell ⟨w.heap.size + 1 + 1 + 1, 1, none⟩ (.int .i64 ((4 + 4 : Nat) : Int))) = w6 at *
    clear hW
    have r4 : Bk w6 (w.heap.size + 1 + 1 + 1) 99 #[.slice A n c, .int .i64 ((8 : Nat) : Int)] := m4b
    have r3 := m3b
    clear m3b m4b
    refine (HRT.out w6 (some ⟨g8, 0, none⟩) c8 hb5b (cutS_own o5b hCu hCn)).mono ?_
    rintro e w7 ⟨v7, rfl, o7, b7⟩
    obtain ⟨A7, c7, rfl, -, -, -⟩ := own_form o7
    have m2 := m2b.below b7 m2b.lt
    have m3 := r3.below b7 r3.lt
    have m4 := r4.below b7 r4.lt
    have hb7 := hb5b.trans (b7.mono hb5b.size)
    have s7 := hb5b.size
    have s8 := m2b.lt
    have s9 := r3.lt
    have s10 := r4.lt
    clear r3 r4 m2b o5b b7 HRT
    have p0 := m3.cell 0
    have zp0 := m3.frozen 0
    have p1 := m3.cell 1
    have zp1 := m3.frozen 1
    have q0 := m4.cell 0
    have zq0 := m4.frozen 0
    have q1 := m4.cell 1
    have zq1 := m4.frozen 1
    go_wp2_with fail
    have hK : Keep (fun i => i = w.heap.size + 1 + 1 ∨ i = w.heap.size + 1 + 1 + 1) w7 (((w7.setCell ⟨w.heap.size + 1 + 1, 0, none⟩ (.slice A7 L.length c7)).setCell ⟨w.heap.size + 1 + 1 + 1, 0, none⟩ (.slice A n c)).setCell ⟨w.heap.size + 1 + 1 + 1, 1, none⟩ (.int .i64 n)) := ((((Keep.refl (fun i => i = w.heap.size + 1 + 1 ∨ i = w.heap.size + 1 + 1 + 1) w7).setCell (p := ⟨w.heap.size + 1 + 1, 0, none⟩) (fun _ => .inl rfl) (.slice A7 L.length c7)).setCell (p := ⟨w.heap.size + 1 + 1 + 1, 0, none⟩) (fun _ => .inr rfl) (.slice A n c)).setCell (p := ⟨w.heap.size + 1 + 1 + 1, 1, none⟩) (fun _ => .inr rfl) (.int .i64 n))
    have m3b := (((m3.set_ 0 (.slice A7 L.length c7)).setOther (p := ⟨w.heap.size + 1 + 1 + 1, 0, none⟩) (by simp) (.slice A n c)).setOther (p := ⟨w.heap.size + 1 + 1 + 1, 1, none⟩) (by simp) (.int .i64 n))
    have m2b := hK.bk m2 (by omega)
    have o7b := hK.own o7 fun i hi he => by have := (o7.lt i hi).1; omega
    have hb7b : Below w.heap.size w (((w7.setCell ⟨w.heap.size + 1 + 1, 0, none⟩ (.slice A7 L.length c7)).setCell ⟨w.heap.size + 1 + 1 + 1, 0, none⟩ (.slice A n c)).setCell ⟨w.heap.size + 1 + 1 + 1, 1, none⟩ (.int .i64 n)) := keep_below hb7 hb7.size hK fun i ht => by omega
    clear p0 p1 q0 q1 zp0 zp1 zq0 zq1 m2 m3 m4 o7 hb7 hK
    generalize hW : (((w7.setCell ⟨w.heap.size + 1 + 1, 0, none⟩ (.slice A7 L.length c7)).setCell ⟨w.heap.size + 1 + 1 + 1, 0, none⟩ (.slice A n c)).setCell ⟨w.heap.size + 1 + 1 + 1, 1, none⟩ (.int .i64 n)) = w8 at *
    clear hW
    have r3 : Bk w8 (w.heap.size + 1 + 1) 34 #[.slice A7 L.length c7, .int .i64 u] := m3b
    clear m3b
    refine (HEN.out w8).mono ?_
    rintro e w9 ⟨rfl, b9⟩
    have m2 := m2b.below b9 m2b.lt
    have m3 := r3.below b9 r3.lt
    have o9b := own_below o7b b9
    have hb9 := hb7b.trans (b9.mono hb7b.size)
    clear r3 m2b o7b b9 HEN hb7b
    have p0 := m2.cell 0
    have zp0 := m2.frozen 0
    have p1 := m2.cell 1
    have zp1 := m2.frozen 1
    have q0 := m3.cell 0
    have zq0 := m3.frozen 0
    have q1 := m3.cell 1
    have zq1 := m3.frozen 1
    go_wp2
    rw [jump_ret]
    have hK : Keep (fun i => i = w.heap.size + 1) w9 _ := ((Keep.refl (fun i => i = w.heap.size + 1) w9).setCell (p := ⟨w.heap.size + 1, 0, none⟩) (fun _ => rfl) (.slice A7 L.length c7)).setCell (p := ⟨w.heap.size + 1, 1, none⟩) (fun _ => rfl) (.int .i64 u)
    have hbF : Below w.heap.size w _ := keep_below hb9 hb9.size hK fun i ht => by omega
    have hoF := own_mono (hK.own o9b fun i hi he => by have := (o9b.lt i hi).1; omega) s7
    refine bodyPost_ret (v := .tuple #[.agg #[.slice A7 L.length c7, .int .i64 u], .int .i64 0]) (by simp [results, Tryz.results33, go_sem, p0, p1]) rfl ?_
    exact ⟨_, rfl, hoF, hbF⟩
end Go.Proofs.YtllcecnkbndokaaGreatDoor
