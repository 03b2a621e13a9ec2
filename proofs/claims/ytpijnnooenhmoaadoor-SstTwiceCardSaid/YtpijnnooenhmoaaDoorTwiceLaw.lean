/- What Build tells of texts told twice over, or in the other order: plainly; Build by its contract once more, all at once. Condition: utf8.ValidString keeps its contract. -/
/- cashbooklaw7.SstTwice by its contract: it returns true. Conditions: the texts read as such; utf8.ValidString keeps its contract. -/
import Derived.Test.YtpijnnooenhmoaaDoorKnown7
namespace Go.Proofs.YtpijnnooenhmoaaDoor
open Go.RowKit Go.Lib

theorem ckT_app {L M : List (List UInt8)} (h : ckT L = 0) (h' : ckT M = 0) : ckT (L ++ M) = 0 := by
  rw [ckT_zero] at *
  intro l hl
  rcases List.mem_append.1 hl with hl | hl
  · exact h l hl
  · exact h' l hl
theorem ckT_rev {L : List (List UInt8)} (h : ckT L = 0) : ckT L.reverse = 0 := by
  rw [ckT_zero] at *
  exact fun l hl => h l (by simpa using hl)
theorem bld_ok {L : List (List UInt8)} (h : ckT L = 0) : bT L = ddT L ∧ bU L = (L.length : Int) ∧ bA L = atT L := by
  unfold bT bU bA
  rw [if_pos h, if_pos h, if_pos h]
  exact ⟨rfl, rfl, rfl⟩
/-- What Build hands over, to read. -/
structure BR (W : World) (A : Option Addr) (c : Nat) (D : Option Addr) (d : Nat) (L : List (List UInt8)) (ps : List Nat) : Prop where
  t : Rd W W.heap.size 1 A L.length (L.map tv)
  a : Rd W W.heap.size 1 D ps.length (ps.map nv)
theorem BR.below {W W' : World} {A D : Option Addr} {c d : Nat} {L : List (List UInt8)} {ps : List Nat} (h : BR W A c D d L ps) (hb : Below W.heap.size W W') : BR W' A c D d L ps := ⟨(h.t.belowMono hb (Nat.le_refl _)).mono hb.size, (h.a.belowMono hb (Nat.le_refl _)).mono hb.size⟩
theorem buildR {w : World} {B n c : Nat} {A : Option Addr} {L : List (List UInt8)} (HV : Val w) (h : Rd w B 1 A n (L.map tv)) (hB : B ≤ w.heap.size) (hn : n ≤ 1000) (hs : ∀ l ∈ L, l.length ≤ 100000) :
    Calls Tryd.prog 8 #[.slice A n c] w fun e w' => ∃ At ct Aa ca, e = .returned (.tuple #[.agg #[.slice At (bT L).length ct, .int .i64 (bU L)], .slice Aa (bA L).length ca, .int .i64 (ckT L)]) ∧ BR w' At ct Aa ca (bT L) (bA L) ∧ Below w.heap.size w w' := by
  refine (build_any (c := c) HV h hB hn hs).mono ?_
  rintro e w1 ⟨xv, av, rfl, o1, o2, hb⟩
  obtain ⟨At, ct, rfl, -, -, r1⟩ := own_form o1
  obtain ⟨Aa, ca, rfl, -, -, r2⟩ := own_form o2
  exact ⟨At, ct, Aa, ca, rfl, ⟨r1, r2⟩, hb⟩
/-- A table in a box, and where each text stands. -/
structure KB (W : World) (g : Nat) (A : Option Addr) (c : Nat) (D : Option Addr) (d : Nat) (L : List (List UInt8)) (ps : List Nat) (u : Int) : Prop where
  k : Bk W g 26 #[.slice A L.length c, .int .i64 u]
  r : BR W A c D d L ps
theorem KB.below {W W' : World} {g c d : Nat} {A D : Option Addr} {L : List (List UInt8)} {ps : List Nat} {u : Int} (h : KB W g A c D d L ps u) (hb : Below W.heap.size W W') : KB W' g A c D d L ps u := ⟨h.k.below hb h.k.lt, h.r.below hb⟩
theorem BR.box {W : World} {c d : Nat} {A D : Option Addr} {L : List (List UInt8)} {ps : List Nat} (h : BR W A c D d L ps) (u : Int) : KB (W.alloc (.cells #[.slice A L.length c, .int .i64 u] 26)) W.heap.size A c D d L ps u := ⟨Bk.new _ _ _, h.below (bx1' W _)⟩
theorem reverse_at {L : List (List UInt8)} {k : Nat} {l : List UInt8} (hk : k < L.length) (h : L[L.length - 1 - k]? = some l) : L.reverse.take (k + 1) = L.reverse.take k ++ [l] := by
  have h1 : L.reverse[k]? = some l := by rw [List.getElem?_reverse hk]; exact h
  have hi := List.getElem?_eq_some_iff.1 h1
  rw [← List.take_append_getElem hi.1, hi.2]
end Go.Proofs.YtpijnnooenhmoaaDoor
namespace Go.Proofs.YtpijnnooenhmoaaDoor
open Go.RowKit Go.Lib

theorem tv_one (L : List (List UInt8)) : ∀ u ∈ L.map tv, u.oneCell' = true := by
  intro u hu
  obtain ⟨c, _, rfl⟩ := List.mem_map.1 hu
  rfl
set_option maxHeartbeats 16000000 in
set_option maxRecDepth 100000 in
theorem twiceLaw_any {w : World} {B n c : Nat} {A : Option Addr} {L : List (List UInt8)} (HV : Val w) (h : Rd w B 1 A n (L.map tv)) (hB : B ≤ w.heap.size) (hsz : ∀ l ∈ L, l.length ≤ 1000000000000000) :
    Calls Tryd.prog 5 #[.slice A n c] w fun e w' => e = .returned (.bool true) ∧ Below w.heap.size w w' := by
  have hl := h.tlen
  have HVV := Lib.hid HV
  clear HV
  go_enter Tryd.func5, Tryd.ntmps5
  go_wp2_with fail
  refine (known_any HVV.out).mono ?_
  rintro e w1 ⟨rfl, hb1⟩
  have HFW := few_any (c := c) (h.belowMono hb1 hB) hsz
  clear hsz
  cases hf : fewB L
  · rw [hf] at HFW
    go_wp2_with fail
    refine HFW.mono ?_
    rintro e w2 ⟨rfl, rfl⟩
    go_wp2
    go_ret
    exact ⟨rfl, hb1⟩
  · rw [hf] at HFW
    obtain ⟨hn, hss⟩ := fewB_len hf
    rw [hl] at hn
    go_wp2_with fail
    refine HFW.mono ?_
    rintro e w2 ⟨rfl, rfl⟩
    clear HFW hf
    have HB1 := buildR (c := c) (HVV.out.below hb1) (h.belowMono hb1 hB) (Nat.le_trans hB hb1.size) (by omega) (fun l hl => by have := hss l hl; omega)
    by_cases h0 : ckT L = 0
    · obtain ⟨e1, e2, e3⟩ := bld_ok h0
      rw [h0, e1, e2, e3, atT_len, hl] at HB1
      clear e1 e2 e3
      have h0d := ckT_app h0 h0
      have h0r := ckT_rev h0
      have HB2 := Lib.hid (fun (W : World) (A : Option Addr) (c : Nat) (hb : Below w.heap.size w W) (hr : Rd W W.heap.size 1 A (n + n) ((L ++ L).map tv)) => by
        have := buildR (c := c) (HVV.out.below hb) hr (Nat.le_refl _) (by omega) (fun l hl => by have := hss l (by simpa using hl); omega)
        obtain ⟨e1, e2, e3⟩ := bld_ok h0d
        rw [h0d, e1, e2, e3, dd_twice, at_twice, List.length_append, List.length_append, atT_len, hl] at this
        exact this)
      have HB3 := Lib.hid (fun (W : World) (A : Option Addr) (c : Nat) (hb : Below w.heap.size w W) (hr : Rd W W.heap.size 1 A n (L.reverse.map tv)) => by
        have := buildR (c := c) (HVV.out.below hb) hr (Nat.le_refl _) (by omega) (fun l hl => by have := hss l (by simpa using hl); omega)
        obtain ⟨e1, e2, e3⟩ := bld_ok h0r
        rw [h0r, e1, e2, e3, dd_rev, List.length_reverse, hl] at this
        exact this)
      have hdl := dd_len L
      have hal : (atT L).length = n := by rw [atT_len, hl]
      clear h0 h0d h0r hss
      generalize hQ : ddT L = Q at *
      generalize hP : atT L = P at *
      clear hQ hP
      generalize hq : Q.length = q at *
      have HQ := Lib.hid hq
      have HPL := Lib.hid hal
      clear hq hal
      go_wp2_with fail
      refine HB1.mono ?_
      rintro e w2 ⟨At, ct, Aa, ca, rfl, r2, b2⟩
      have hb2 := hb1.trans (b2.mono hb1.size)
      clear HB1 hb1 b2
      have hW := bx1' w2 (.cells #[.slice At q ct, .int .i64 n] 26)
      have r3 := r2.below hW
      have k3 := Bk.new w2 26 #[.slice At q ct, .int .i64 n]
      have hb3 := hb2.trans (hW.mono hb2.size)
      have hz3 : w2.heap.size < (w2.alloc (.cells #[.slice At q ct, .int .i64 n] 26)).heap.size := by simp
      have hsW := hb3.size
      have hx3 : Below (w2.alloc (.cells #[.slice At q ct, .int .i64 n] 26)).heap.size (w2.alloc (.cells #[.slice At q ct, .int .i64 n] 26)) ((w2.alloc (.cells #[.slice At q ct, .int .i64 n] 26)).alloc (.cells #[] 9)) := bx1' _ _
      have hL3 := (h.belowMono (hb3.trans (hx3.mono hsW)) hB)
      clear r2 hb2 hW
      have hom : ((w2.alloc (.cells #[.slice At q ct, .int .i64 n] 26)).alloc (.cells #[] 9)).ownsRow (w2.heap.size + 1) 9 1 (.slice (some ⟨w2.heap.size + 1, 0, none⟩) 0 0) 0 [] := by
        simpa using World.ownsRow_made (base := w2.heap.size + 1) (size := 1) (w2.alloc (.cells #[.slice At q ct, .int .i64 n] 26)) #[] 0 (by simp) (by simp [maxLen]) (by simp)
      go_wp2_with (at_builtin; refine wpList_app strsRow rfl (.tmp 30) (.tmp 31) rfl rfl rfl hom hL3 (tv_one _) ?_ ?_ ?_ ?_)
      · unfold maxLen; omega
      · omega
      · simp
      intro v4 w4 o4 g4 b4
      have hb34 : Below (w2.heap.size + 1) (w2.alloc (.cells #[.slice At q ct, .int .i64 n] 26)) w4 := (hx3.mono (by simp)).trans b4
      try simp only [Nat.zero_add, List.nil_append] at o4
      have k4 := k3.below hb34 (by omega)
      have hb4 : Below w.heap.size w w4 := hb3.trans (hb34.mono (by simp at hsW; omega))
      have hs4 : w2.heap.size + 1 ≤ w4.heap.size := Nat.lt_of_lt_of_le (Nat.lt_of_succ_le (by simp)) hb34.size
      have hL4 := h.belowMono hb4 hB
      have hsw : w.heap.size ≤ w2.heap.size + 1 := by simpa using hsW
      clear k3 hz3 hsW hx3 hL3 g4 b4 hb3 hom
      go_wp2_with (at_builtin; refine wpList_app strsRow rfl (.tmp 32) (.tmp 33) rfl rfl rfl o4 hL4 (tv_one _) ?_ ?_ ?_ ?_)
      · unfold maxLen; omega
      · omega
      · omega
      intro v5 w5 o5 g5 b5
      rw [← List.map_append] at o5
      have k5 := k4.below b5 (by omega)
      have r5 := r3.below (by have := hb34.trans b5; rwa [show w2.heap.size + 1 = (w2.alloc (.cells #[.slice At q ct, .int .i64 n] 26)).heap.size by simp] at this)
      have hb5 : Below w.heap.size w w5 := hb4.trans (b5.mono hsw)
      obtain ⟨A5, c5, rfl, -, -, q5⟩ := own_form o5
      have hB2 := HB2.out w5 A5 c5 hb5 q5
      clear r3 k4 o4 o5 g5 b5 hb4 hb34 hL4 q5 HB2 hs4 hsw
      go_wp2_with fail
      refine hB2.mono ?_
      rintro e w6 ⟨Au, cu, Ab, cb, rfl, r6, b6⟩
      have hW6 := bx1' w6 (.cells #[.slice Au q cu, .int .i64 ((n : Int) + n)] 26)
      have k7 := Bk.new w6 26 #[.slice Au q cu, .int .i64 ((n : Int) + n)]
      have r7 := r6.below hW6
      have j5 := k5.below b6 k5.lt
      have j7 := j5.below hW6 j5.lt
      have t7 := (r5.below b6).below hW6
      have hb6 := hb5.trans (b6.mono hb5.size)
      have hb7 := hb6.trans (hW6.mono hb6.size)
      have hsx : (w6.alloc (.cells #[.slice Au q cu, .int .i64 ((n : Int) + n)] 26)).heap.size = w6.heap.size + 1 := by simp
      have hL7 := h.belowMono hb7 hB
      have hsl : w2.heap.size < w6.heap.size := j5.lt
      clear hB2 b6 r6 r5 k5 hb5 hb6 hW6 j5
      go_wp2
      generalize (w6.alloc (.cells #[.slice Au q cu, .int .i64 ((n : Int) + n)] 26)) = w7 at *
      go_loopw [9, 10] (fun xv i wr => ∃ (k : Nat) (j : Int), k ≤ n ∧ i = .int .i64 j ∧ j = (n : Int) - 1 - k ∧ wr.ownsRow w7.heap.size 9 1 xv k ((L.reverse.take k).map tv) ∧ Below w7.heap.size w7 wr) (fun _ i _ => (Go.RowKit.intOf i + 1).toNat)
      case atStart => exact ⟨0, (n : Int) - 1, Nat.zero_le _, rfl, by omega, World.ownsRow_nil _ _ _ _, Below.refl _ _⟩
      case round =>
        obtain ⟨k, j, hk, rfl, hj, ho, hbel⟩ := hrel
        by_cases hkn : k < n
        · obtain ⟨m, rfl⟩ : ∃ m : Nat, j = m := ⟨n - 1 - k, by omega⟩
          obtain ⟨a, s, rfl, hab, hsi, hcell⟩ := (hL7.belowMono hbel (Nat.le_trans hB hb7.size)).strAt (i := m) (by omega)
          have hj0 : (m : Int) ≥ 0 := by omega
          have hmn : (m : Int) < (n : Int) := by omega
          have HT := Lib.hid (reverse_at (L := L) (k := k) (by omega) (by rw [hl, show n - 1 - k = m by omega]; exact hsi))
          have HJ := Lib.hid hj
          clear hsi h HB3 hj
          go_wp2_with (at_builtin; refine wpList_app strsRow rfl (.tmp 46) (.tmp 51) rfl rfl rfl (ho.alloc _) (Rd.fresh _ _ 1 1 _ rfl) ?_ ?_ ?_ ?_ ?_)
          · intro u hu; simp at hu; subst hu; rfl
          · unfold maxLen; omega
          · omega
          · simp; have := hbel.size; omega
          intro v8 w8 o8 g8 b8
          have hbF : Below w7.heap.size w7 w8 := hbel.trans (((Below.refl _ wr).alloc hbel.size _).trans (by rw [hsx]; exact b8))
          have o9 : w8.ownsRow w7.heap.size 9 1 v8 (k + 1) ((L.reverse.take (k + 1)).map tv) := by
            rw [hsx, HT.out, List.map_append, List.map_cons, List.map_nil, tv_str, List.map_take, List.map_reverse]
            exact o8
          clear o8 g8 b8 ho hbel hcell HT
          go_wp2
          go_roundw
          case rel => exact ⟨k + 1, _, by omega, by go_num, by have := HJ.out; omega, o9, hbF⟩
          case measure => have := HJ.out; simp [Go.RowKit.intOf] <;> omega
        · obtain rfl : k = n := by omega
          obtain rfl : j = -1 := by omega
          clear hj hkn
          obtain ⟨A9, c9, rfl, -, -, q9⟩ := own_form ho
          rw [List.take_of_length_le (by simp; omega)] at q9
          have hB3 := HB3.out wr A9 c9 (hb7.trans (hbel.mono hb7.size)) q9
          clear ho q9 HB3
          go_wp2_with fail
          refine hB3.mono ?_
          rintro e w10 ⟨Av, cv, Ac, cc, rfl, -, b10⟩
          have b11 := bx1' w10 (.cells #[.slice Av q cv, .int .i64 k] 26)
          have b12 := (hbel.trans (b10.mono hbel.size)).trans (b11.mono (Nat.le_trans hbel.size b10.size))
          have hbF := hb7.trans (b12.mono hb7.size)
          have kv := Bk.new w10 26 #[.slice Av q cv, .int .i64 k]
          have ku := k7.below b12 (by omega)
          have kt := j7.below b12 (by omega)
          have ru := r7.below b12
          have rt := t7.below b12
          clear r7 t7 k7 j7 b12 b11 b10 hbel hb7 hL7
          have t0 := kt.cell 0
          have t1 := kt.cell 1
          have u0 := ku.cell 0
          have u1 := ku.cell 1
          have v0 := kv.cell 0
          have v1 := kv.cell 1
          go_wp2
          generalize hW : (w10.alloc (.cells #[.slice Av q cv, .int .i64 k] 26)) = W at *
          clear ku kv kt v0 v1 u1 t1
          have HPn := HPL.out
          go_loopw [14] (fun i wr => ∃ m d : Nat, m ≤ k ∧ i = .int .i64 m ∧ wr = W.drewN d) (fun i _ => k - (Go.RowKit.intOf i).toNat)
          case atStart => exact ⟨0, 0, Nat.zero_le _, rfl, rfl⟩
          case round =>
            obtain ⟨m, d, hm, rfl, rfl⟩ := hrel
            by_cases hmk : m < k
            · obtain ⟨a, p, rfl, _, hx, hc⟩ := rt.a.natAt (i := m) (by rw [HPn]; exact hmk)
              obtain ⟨a', p', rfl, _, hx', hc'⟩ := ru.a.natAt (i := m) (by simp [HPn]; omega)
              obtain ⟨a'', p'', e, _, hx'', hc''⟩ := ru.a.natAt (i := k + m) (by simp [HPn]; omega)
              injection e with e
              subst e
              rw [List.getElem?_append_left (by rw [HPn]; exact hmk), hx] at hx'
              rw [List.getElem?_append_right (by omega), HPn, Nat.add_sub_cancel_left, hx] at hx''
              injection hx' with hx'
              injection hx'' with hx''
              subst hx' hx''
              have hmk' : (m : Int) < (k : Int) := by omega
              have hmk2 : (k : Int) + (m : Int) < (k : Int) + (k : Int) := by omega
              have hpp : ((p : Int) != (p : Int)) = false := by simp
              clear hx rt ru HPn HPL HQ hdl t0 u0 h hbF
              go_wp2
              go_quiet (fail)
              go_wp2
              go_roundw
              case rel => exact ⟨m + 1, _, by omega, by go_num, rfl⟩
              case measure => simp [Go.RowKit.intOf]; omega
            · obtain rfl : m = k := by omega
              have qt := rt.t
              have qu := ru.t
              rw [HQ.out] at qt qu
              have hqm : q ≤ 100 := by omega
              clear hmk rt ru HPn HPL hdl h
              go_wp2
              go_loopw [15] (fun i wr => ∃ k d : Nat, k ≤ q ∧ i = .int .i64 k ∧ wr = W.drewN d) (fun i _ => q - (Go.RowKit.intOf i).toNat)
              case atStart => exact ⟨0, _, Nat.zero_le _, rfl, rfl⟩
              case round =>
                obtain ⟨z, d, hz, rfl, rfl⟩ := hrel
                by_cases hkn : z < q
                · obtain ⟨a, x, rfl, _, hx, hc⟩ := qt.tvAt hkn
                  obtain ⟨a', y, rfl, _, hy, hc'⟩ := qu.tvAt hkn
                  rw [hx] at hy
                  injection hy with hy
                  subst hy
                  have hkn' : (z : Int) < (q : Int) := by omega
                  have e3 := strOf_eq x x
                  rw [decide_eq_true rfl] at e3
                  clear hx qt qu
                  go_wp2
                  go_quiet (fail)
                  go_wp2
                  go_roundw
                  case rel => exact ⟨z + 1, _, by omega, by go_num, rfl⟩
                  case measure => simp [Go.RowKit.intOf]; omega
                · obtain rfl : z = q := by omega
                  clear hkn qt qu
                  go_wp2
                  go_ret
                  exact ⟨rfl, below_drewN hbF _⟩
    · have hb0 : (ckT L != 0) = true := by simpa using h0
      clear h0 hss
      generalize bT L = LT at *
      generalize bU L = LU at *
      generalize bA L = LA at *
      generalize ckT L = E at *
      go_wp2_with fail
      refine HB1.mono ?_
      rintro e w2 ⟨At, ct, Aa, ca, rfl, -, b2⟩
      have hb2 := hb1.trans (b2.mono hb1.size)
      have hbF := hb2.alloc hb2.size (.cells #[.slice At LT.length ct, .int .i64 LU] 26)
      clear HB1 hb1 b2 hb2
      go_wp2
      go_ret
      exact ⟨rfl, hbF⟩
end Go.Proofs.YtpijnnooenhmoaaDoor
