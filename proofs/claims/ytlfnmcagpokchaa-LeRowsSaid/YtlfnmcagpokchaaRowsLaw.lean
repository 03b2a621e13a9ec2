/- LeRows by its contract: it returns true. Condition: numbers and widths read as such. -/
import Derived.Test.YtlfnmcagpokchaaRowsPre
namespace Go.Proofs.Ytlfnmcagpokchaa
open Go.RowKit

theorem put16_ok' {w : World} {B n c : Nat} {A : Option Addr} {l : List UInt8} {q : Nat} {k : Int} (hk : k = (q : Int)) (h : Rd w B 1 A n (l.map bv)) (hB : B ≤ w.heap.size) (hn : n ≤ 1000) (hq : q < 65536) :
    Calls Try.prog 18 #[.slice A n c, .int .i64 k] w (PutsOk w (n + 2) (l ++ lowB q 2)) := by subst hk; exact put16_ok h hB hn hq

section
variable {w : World} {B n c p : Nat} {A : Option Addr} {l pre post : List UInt8}
theorem mid16b {q : Nat} {k : Int} (hk : k = (q : Int)) (hp : pre.length = p) (h : Rd w B 1 A n (l.map bv)) (hnc : n ≤ c) (hn : n ≤ 1000) (hB : B ≤ w.heap.size) (hl : l = pre ++ lowB q 2 ++ post) (hq : q < 65536) :
    Calls Try.prog 10 #[.agg #[.slice A n c, .int .i64 p]] w fun e w' => e = .returned (.tuple #[.int .i64 k, .agg #[.slice A n c, .int .i64 ((p : Int) + 2)], .int .i64 0]) ∧ Below w.heap.size w w' := by subst hk hp; exact mid16 h hnc hn hB hl hq
theorem mid32b {q : Nat} (hp : pre.length = p) (h : Rd w B 1 A n (l.map bv)) (hnc : n ≤ c) (hn : n ≤ 1000) (hB : B ≤ w.heap.size) (hl : l = pre ++ lowB q 4 ++ post) (hq : q < 4294967296) :
    Calls Try.prog 11 #[.agg #[.slice A n c, .int .i64 p]] w fun e w' => e = .returned (.tuple #[.int .i64 q, .agg #[.slice A n c, .int .i64 ((p : Int) + 4)], .int .i64 0]) ∧ Below w.heap.size w w' := by subst hp; exact mid32 h hnc hn hB hl hq
theorem mid64b {k : Int} (hp : pre.length = p) (h : Rd w B 1 A n (l.map bv)) (hnc : n ≤ c) (hn : n ≤ 1000) (hB : B ≤ w.heap.size) (hl : l = pre ++ lowB (two64 k) 8 ++ post) (h0 : -9223372036854775808 ≤ k) (h1 : k ≤ 9223372036854775807) :
    Calls Try.prog 12 #[.agg #[.slice A n c, .int .i64 p]] w fun e w' => e = .returned (.tuple #[.int .i64 k, .agg #[.slice A n c, .int .i64 ((p : Int) + 8)], .int .i64 0]) ∧ Below w.heap.size w w' := by subst hp; exact mid64 h hnc hn hB hl h0 h1
end

set_option maxHeartbeats 8000000 in
set_option maxRecDepth 100000 in
theorem rows_walk {w : World} {B B' n c m c' : Nat} {A A' : Option Addr} {zs : List Nat} {ds : List UInt8} (h : Rd w B 1 A n (zs.map uv)) (h' : Rd w B' 1 A' m (ds.map bv)) (hB : B ≤ w.heap.size) (hB' : B' ≤ w.heap.size) (hn : n ≤ 60) (hm : n ≤ m) (hz : ∀ z ∈ zs, z < 4294967296) :
    Calls Try.prog 5 #[.slice A n c, .slice A' m c'] w fun e w' => e = .returned (.bool true) ∧ Below w.heap.size w w' := by
  have hzl : zs.length = n := by have := h.len; simpa using this
  have hdl := h'.blen
  have hm' : ¬ (m : Int) < (n : Int) := by omega
  have hm2 : (decide (m < n)) = false := by simp; omega
  have HZ := Lib.hid hz
  obtain ⟨P, hP⟩ : ∃ P, zs.zip ds = P := ⟨_, rfl⟩
  have hPl : P.length = n := by rw [← hP, List.length_zip]; omega
  have HP := Lib.hid hP
  have HPl := Lib.hid hPl
  have HZl := Lib.hid hzl
  have HDl := Lib.hid hdl
  clear hz hP hPl hzl hdl
  go_enter Try.func5, Try.ntmps5
  go_wp2_with fail
  refine (known3_any w).mono ?_
  rintro e w0 ⟨rfl, hb0⟩
  have g0 := h.belowMono hb0 hB
  have g0' := h'.belowMono hb0 hB'
  have z0 : B ≤ w0.heap.size := Nat.le_trans hB hb0.size
  have z0' : B' ≤ w0.heap.size := Nat.le_trans hB' hb0.size
  go_wp2_with fail
  go_loopw [5, 6] (fun v i wr => ∃ (k b len cap : Nat) (Av : Option Addr), k ≤ n ∧ i = .int .i64 k ∧ v = .slice Av len cap ∧ len ≤ cap ∧ len ≤ 8 * k ∧ Rd wr b 1 Av len ((rowsB (P.take k)).map bv) ∧ b ≤ wr.heap.size ∧ Below w0.heap.size w0 wr) (fun _ i _ => n - (intOf i).toNat)
  case atStart => exact ⟨0, 0, 0, 0, none, Nat.zero_le _, rfl, rfl, Nat.le_refl _, Nat.le_refl _, Rd.nil _ _ _ _, Nat.zero_le _, Below.refl _ _⟩
  case round =>
    obtain ⟨k, b, len, cap, Av, hk, rfl, rfl, hcap, hlen, hv, hb, hbel⟩ := hrel
    by_cases hkn : k < n
    · obtain ⟨a, z, rfl, _, hc, hz⟩ := (g0.belowMono hbel z0).uAt hkn
      obtain ⟨a', d, rfl, _, hc', hd, -⟩ := (g0'.belowMono hbel z0').byteAt (i := k) (by omega)
      have hzlt := HZ.out z (List.mem_of_getElem? hz)
      have hPk : Hid (rowsB (P.take (k + 1)) = rowsB (P.take k) ++ rowB z d) := Lib.hid (rowsB_step (by rw [← HP.out]; exact List.getElem?_zip_eq_some.2 ⟨hz, hd⟩))
      have hkn' : (k : Int) < (n : Int) := by omega
      have hkm : k < m := by omega
      have hkm' : (k : Int) < (m : Int) := by omega
      have bd := d.toNat_lt
      have hs := hbel.size
      clear hz hd
      have d3 : d.toNat % 3 = 0 ∨ d.toNat % 3 = 1 ∨ d.toNat % 3 = 2 := by omega
      rcases d3 with d3 | d3 | d3
      · have t0 : ((d.toNat : Int) % 3 == 0) = true := by simp; omega
        have HR := Lib.hid (show rowB z d = lowB (z % 65536) 2 by unfold rowB; rw [if_pos d3])
        clear d3
        go_wp2_with fail
        refine (put16_ok' (q := z % 65536) (by omega) hv hb (by omega) (by omega)).mono ?_
        rintro e w1 ⟨A1, c1, rfl, hc1, hr1, hb1⟩
        have hr2 : Rd w1 w1.heap.size 1 A1 (len + 2) ((rowsB (P.take (k + 1))).map bv) := by rw [hPk.out, HR.out]; exact hr1
        have hb2 := hbel.trans (hb1.mono hs)
        clear hr1 hb1 hv
        go_wp2
        go_roundw
        case rel => exact ⟨k + 1, w1.heap.size, len + 2, c1, A1, by omega, by go_num, rfl, hc1, by omega, hr2, Nat.le_refl _, hb2⟩
        case measure => simp [intOf]; omega
      · have t0 : ((d.toNat : Int) % 3 == 0) = false := by simp; omega
        have t1 : ((d.toNat : Int) % 3 == 1) = true := by simp; omega
        have HR := Lib.hid (show rowB z d = lowB z 4 by unfold rowB; rw [if_neg (by omega), if_pos d3])
        clear d3
        go_wp2_with fail
        refine (put32_ok (q := z) hv hb (by omega) hzlt).mono ?_
        rintro e w1 ⟨A1, c1, rfl, hc1, hr1, hb1⟩
        have hr2 : Rd w1 w1.heap.size 1 A1 (len + 4) ((rowsB (P.take (k + 1))).map bv) := by rw [hPk.out, HR.out]; exact hr1
        have hb2 := hbel.trans (hb1.mono hs)
        clear hr1 hb1 hv
        go_wp2
        go_roundw
        case rel => exact ⟨k + 1, w1.heap.size, len + 4, c1, A1, by omega, by go_num, rfl, hc1, by omega, hr2, Nat.le_refl _, hb2⟩
        case measure => simp [intOf]; omega
      · have t0 : ((d.toNat : Int) % 3 == 0) = false := by simp; omega
        have t1 : ((d.toNat : Int) % 3 == 1) = false := by simp; omega
        have t2 : ((d.toNat : Int) % 3 == 2) = true := by simp; omega
        have HR := Lib.hid (show rowB z d = lowB (two64 (-(z : Int))) 8 by unfold rowB; rw [if_neg (by omega), if_neg (by omega)])
        clear d3
        go_wp2_with fail
        refine (put64_ok (k := -(z : Int)) hv hb (by omega)).mono ?_
        rintro e w1 ⟨A1, c1, rfl, hc1, hr1, hb1⟩
        have hr2 : Rd w1 w1.heap.size 1 A1 (len + 8) ((rowsB (P.take (k + 1))).map bv) := by rw [hPk.out, HR.out]; exact hr1
        have hb2 := hbel.trans (hb1.mono hs)
        clear hr1 hb1 hv
        go_wp2
        go_roundw
        case rel => exact ⟨k + 1, w1.heap.size, len + 8, c1, A1, by omega, by go_num, rfl, hc1, by omega, hr2, Nat.le_refl _, hb2⟩
        case measure => simp [intOf]; omega
    · obtain rfl : k = n := by omega
      obtain ⟨wO, rfl⟩ : ∃ wO : World, wO = wr := ⟨_, rfl⟩
      have hkn' : ¬ (k : Int) < (k : Int) := by omega
      rw [show P.take k = P by exact List.take_of_length_le (by rw [HPl.out]; exact Nat.le_refl _)] at hv
      have hs := hbel.size
      have G := Lib.hid (g0.belowMono hbel z0)
      have G' := Lib.hid (g0'.belowMono hbel z0')
      have y0 : B ≤ wO.heap.size := Nat.le_trans z0 hs
      have y0' : B' ≤ wO.heap.size := Nat.le_trans z0' hs
      have bw := hb0.trans (hbel.mono hb0.size)
      have hlenB : (rowsB P).length = len := by have := hv.len; simpa using this
      have HLB := Lib.hid hlenB
      obtain ⟨W1, hW1⟩ : ∃ W1, W1 = wO.alloc (.cells #[.slice Av len cap, .int .i64 0] 25) := ⟨_, rfl⟩
      have V0 := Lib.hid hv
      have K1 := Lib.hid (show Bk W1 wO.heap.size 25 #[.slice Av len cap, .int .i64 0] by rw [hW1]; exact Bk.new wO _ _)
      have b1 : Below wO.heap.size wO W1 := by rw [hW1]; exact (Below.refl _ _).alloc (Nat.le_refl _) _
      clear hlenB hv g0 g0' z0 z0' hbel hb0
      go_wp2_with fail
      rw [← hW1]
      clear hW1
      go_loopw [13] (fun i wi => ∃ (j p : Nat), j ≤ k ∧ i = .int .i64 j ∧ Bk wi wO.heap.size 25 #[.slice Av len cap, .int .i64 p] ∧ Hid ((rowsB (P.take j)).length = p) ∧ Below wO.heap.size wO wi) (fun i _ => k - (intOf i).toNat)
      case atStart => exact ⟨0, 0, Nat.zero_le _, rfl, K1.out, Lib.hid (by simp [rowsB]), b1⟩
      case round =>
        obtain ⟨j, p, hj, rfl, hk1, HPJ, hbel⟩ := hrel
        have hs := hbel.size
        by_cases hjk : j < k
        · obtain ⟨a, z, rfl, hab, hc, hz⟩ := (G.out.belowMono hbel y0).uAt hjk
          obtain ⟨a', d, rfl, _, hc', hd, -⟩ := (G'.out.belowMono hbel y0').byteAt (i := j) (by omega)
          have hzlt := HZ.out z (List.mem_of_getElem? hz)
          have hPj : P[j]? = some (z, d) := by rw [← HP.out]; exact List.getElem?_zip_eq_some.2 ⟨hz, hd⟩
          have HM := Lib.hid (rowsB_mid hPj)
          have HSt := Lib.hid (rowsB_step hPj)
          have hjk' : (j : Int) < (k : Int) := by omega
          have hjm : j < m := by omega
          have hjm' : (j : Int) < (m : Int) := by omega
          have bd := d.toNat_lt
          have V2 := V0.out.belowMono hbel hb
          have hbr : b ≤ wr.heap.size := Nat.le_trans hb hs
          have hl8 : len ≤ 1000 := by omega
          have hpb : p ≤ 480 := by
            have h1 := rowsB_len (P.take j)
            have h2 := List.length_take_le j P
            rw [HPJ.out] at h1
            omega
          have q0 := hk1.cell 0
          have q1 := hk1.cell 1
          clear hz hd hPj
          have d3 : d.toNat % 3 = 0 ∨ d.toNat % 3 = 1 ∨ d.toNat % 3 = 2 := by omega
          rcases d3 with d3 | d3 | d3
          · have t0 : ((d.toNat : Int) % 3 == 0) = true := by simp; omega
            have HR : Hid (rowsB P = rowsB (P.take j) ++ lowB (z % 65536) 2 ++ rowsB (P.drop (j + 1))) := Lib.hid (by rw [HM.out]; unfold rowB; rw [if_pos d3])
            have HPN := Lib.hid (show (rowsB (P.take (j + 1))).length = p + 2 by rw [HSt.out, List.length_append, HPJ.out]; unfold rowB; rw [if_pos d3]; rw [lowB_len])
            clear d3 HM HSt
            go_wp2_with fail
            refine (mid16b (k := (z : Int) % 65536) (q := z % 65536) (by omega) HPJ.out V2 hcap hl8 hbr HR.out (by omega)).mono ?_
            rintro e w1 ⟨rfl, hb1⟩
            have s1 := hb1.size
            have hk2 := (hk1.below hb1 hk1.lt).alloc (.cells #[.slice Av len cap, .int .i64 ((p : Int) + 2)] 25)
            have hk3 := Bk.new w1 25 #[.slice Av len cap, .int .i64 ((p : Int) + 2)]
            have hb2 := (hbel.trans (hb1.mono hs)).alloc (Nat.le_trans hs s1) (.cells #[.slice Av len cap, .int .i64 ((p : Int) + 2)] 25)
            have c5 : (w1.alloc (.cells #[.slice Av len cap, .int .i64 ((p : Int) + 2)] 25)).cell? (a.add j) = some (.int .u32 (z : Int)) := by
              have e1 := hb1.cell (p := a.add j) (by rw [add_block]; omega)
              have e2 := ((Below.refl w1.heap.size w1).alloc (Nat.le_refl _) (.cells #[.slice Av len cap, .int .i64 ((p : Int) + 2)] 25)).cell (p := a.add j) (by rw [add_block]; omega)
              rw [e2, e1]; exact hc
            have x0 := hk2.cell 0
            have x1 := hk2.cell 1
            have y1 := hk3.cell 0
            have y2 := hk3.cell 1
            have f0 := hk2.frozen 0
            have f1 := hk2.frozen 1
            have ne0 : (((z : Int) % 65536 : Int) != ((z : Int) % 65536 : Int)) = false := by simp
            have ne1 : (((p : Int) + 2) != ((p : Int) + 2)) = false := by simp
            have kb := (hk2.set_ 0 (.slice Av len cap)).set_ 1 (.int .i64 ((p : Int) + 2))
            have hb3 := (hb2.setCell (p := ⟨wO.heap.size, 0, none⟩) (Nat.le_refl _) (.slice Av len cap)).setCell (p := ⟨wO.heap.size, 1, none⟩) (Nat.le_refl _) (.int .i64 ((p : Int) + 2))
            have kb' : Bk (((w1.alloc (.cells #[.slice Av len cap, .int .i64 ((p : Int) + 2)] 25)).setCell ⟨wO.heap.size, 0, none⟩ (.slice Av len cap)).setCell ⟨wO.heap.size, 1, none⟩ (.int .i64 ((p : Int) + 2))) wO.heap.size 25 #[.slice Av len cap, .int .i64 ((p + 2 : Nat) : Int)] := by simpa using kb
            clear kb hc hk2 hk3 hb1
            go_wp2
            go_roundw
            case rel => exact ⟨j + 1, p + 2, by omega, by go_num, kb', HPN, hb3⟩
            case measure => simp [intOf]; omega
          · have t0 : ((d.toNat : Int) % 3 == 0) = false := by simp; omega
            have t1 : ((d.toNat : Int) % 3 == 1) = true := by simp; omega
            have HR : Hid (rowsB P = rowsB (P.take j) ++ lowB z 4 ++ rowsB (P.drop (j + 1))) := Lib.hid (by rw [HM.out]; unfold rowB; rw [if_neg (by omega), if_pos d3])
            have HPN := Lib.hid (show (rowsB (P.take (j + 1))).length = p + 4 by rw [HSt.out, List.length_append, HPJ.out]; unfold rowB; rw [if_neg (by omega), if_pos d3]; rw [lowB_len])
            clear d3 HM HSt
            go_wp2_with fail
            refine (mid32b (q := z) HPJ.out V2 hcap hl8 hbr HR.out hzlt).mono ?_
            rintro e w1 ⟨rfl, hb1⟩
            have s1 := hb1.size
            have hk2 := (hk1.below hb1 hk1.lt).alloc (.cells #[.slice Av len cap, .int .i64 ((p : Int) + 4)] 25)
            have hk3 := Bk.new w1 25 #[.slice Av len cap, .int .i64 ((p : Int) + 4)]
            have hb2 := (hbel.trans (hb1.mono hs)).alloc (Nat.le_trans hs s1) (.cells #[.slice Av len cap, .int .i64 ((p : Int) + 4)] 25)
            have c5 : (w1.alloc (.cells #[.slice Av len cap, .int .i64 ((p : Int) + 4)] 25)).cell? (a.add j) = some (.int .u32 (z : Int)) := by
              have e1 := hb1.cell (p := a.add j) (by rw [add_block]; omega)
              have e2 := ((Below.refl w1.heap.size w1).alloc (Nat.le_refl _) (.cells #[.slice Av len cap, .int .i64 ((p : Int) + 4)] 25)).cell (p := a.add j) (by rw [add_block]; omega)
              rw [e2, e1]; exact hc
            have x0 := hk2.cell 0
            have x1 := hk2.cell 1
            have y1 := hk3.cell 0
            have y2 := hk3.cell 1
            have f0 := hk2.frozen 0
            have f1 := hk2.frozen 1
            have ne0 : (((z : Int) : Int) != ((z : Int) : Int)) = false := by simp
            have ne1 : (((p : Int) + 4) != ((p : Int) + 4)) = false := by simp
            have kb := (hk2.set_ 0 (.slice Av len cap)).set_ 1 (.int .i64 ((p : Int) + 4))
            have hb3 := (hb2.setCell (p := ⟨wO.heap.size, 0, none⟩) (Nat.le_refl _) (.slice Av len cap)).setCell (p := ⟨wO.heap.size, 1, none⟩) (Nat.le_refl _) (.int .i64 ((p : Int) + 4))
            have kb' : Bk (((w1.alloc (.cells #[.slice Av len cap, .int .i64 ((p : Int) + 4)] 25)).setCell ⟨wO.heap.size, 0, none⟩ (.slice Av len cap)).setCell ⟨wO.heap.size, 1, none⟩ (.int .i64 ((p : Int) + 4))) wO.heap.size 25 #[.slice Av len cap, .int .i64 ((p + 4 : Nat) : Int)] := by simpa using kb
            clear kb hc hk2 hk3 hb1
            go_wp2
            go_roundw
            case rel => exact ⟨j + 1, p + 4, by omega, by go_num, kb', HPN, hb3⟩
            case measure => simp [intOf]; omega
          · have t0 : ((d.toNat : Int) % 3 == 0) = false := by simp; omega
            have t1 : ((d.toNat : Int) % 3 == 1) = false := by simp; omega
            have t2 : ((d.toNat : Int) % 3 == 2) = true := by simp; omega
            have HR : Hid (rowsB P = rowsB (P.take j) ++ lowB (two64 (-(z : Int))) 8 ++ rowsB (P.drop (j + 1))) := Lib.hid (by rw [HM.out]; unfold rowB; rw [if_neg (by omega), if_neg (by omega)])
            have HPN := Lib.hid (show (rowsB (P.take (j + 1))).length = p + 8 by rw [HSt.out, List.length_append, HPJ.out]; unfold rowB; rw [if_neg (by omega), if_neg (by omega)]; rw [lowB_len])
            clear d3 HM HSt
            go_wp2_with fail
            refine (mid64b (k := -(z : Int)) HPJ.out V2 hcap hl8 hbr HR.out (by omega) (by omega)).mono ?_
            rintro e w1 ⟨rfl, hb1⟩
            have s1 := hb1.size
            have hk2 := (hk1.below hb1 hk1.lt).alloc (.cells #[.slice Av len cap, .int .i64 ((p : Int) + 8)] 25)
            have hk3 := Bk.new w1 25 #[.slice Av len cap, .int .i64 ((p : Int) + 8)]
            have hb2 := (hbel.trans (hb1.mono hs)).alloc (Nat.le_trans hs s1) (.cells #[.slice Av len cap, .int .i64 ((p : Int) + 8)] 25)
            have c5 : (w1.alloc (.cells #[.slice Av len cap, .int .i64 ((p : Int) + 8)] 25)).cell? (a.add j) = some (.int .u32 (z : Int)) := by
              have e1 := hb1.cell (p := a.add j) (by rw [add_block]; omega)
              have e2 := ((Below.refl w1.heap.size w1).alloc (Nat.le_refl _) (.cells #[.slice Av len cap, .int .i64 ((p : Int) + 8)] 25)).cell (p := a.add j) (by rw [add_block]; omega)
              rw [e2, e1]; exact hc
            have x0 := hk2.cell 0
            have x1 := hk2.cell 1
            have y1 := hk3.cell 0
            have y2 := hk3.cell 1
            have f0 := hk2.frozen 0
            have f1 := hk2.frozen 1
            have ne0 : ((-(z : Int) : Int) != (-(z : Int) : Int)) = false := by simp
            have ne1 : (((p : Int) + 8) != ((p : Int) + 8)) = false := by simp
            have kb := (hk2.set_ 0 (.slice Av len cap)).set_ 1 (.int .i64 ((p : Int) + 8))
            have hb3 := (hb2.setCell (p := ⟨wO.heap.size, 0, none⟩) (Nat.le_refl _) (.slice Av len cap)).setCell (p := ⟨wO.heap.size, 1, none⟩) (Nat.le_refl _) (.int .i64 ((p : Int) + 8))
            have kb' : Bk (((w1.alloc (.cells #[.slice Av len cap, .int .i64 ((p : Int) + 8)] 25)).setCell ⟨wO.heap.size, 0, none⟩ (.slice Av len cap)).setCell ⟨wO.heap.size, 1, none⟩ (.int .i64 ((p : Int) + 8))) wO.heap.size 25 #[.slice Av len cap, .int .i64 ((p + 8 : Nat) : Int)] := by simpa using kb
            clear kb hc hk2 hk3 hb1
            go_wp2
            go_roundw
            case rel => exact ⟨j + 1, p + 8, by omega, by go_num, kb', HPN, hb3⟩
            case measure => simp [intOf]; omega
        · obtain rfl : j = k := by omega
          have hjk' : ¬ (j : Int) < (j : Int) := by omega
          have hp : p = len := by
            rw [← HPJ.out, ← HLB.out, List.take_of_length_le (by rw [HPl.out]; exact Nat.le_refl _)]
          subst hp
          have q0 := hk1.cell 0
          have q1 := hk1.cell 1
          go_wp2_with fail
          refine (end_ok (m := p) (z := (p : Int)) (by omega) rfl).mono ?_
          rintro e w1 ⟨rfl, hb1⟩
          have bF := (bw.trans (hbel.mono bw.size)).trans (hb1.mono (Nat.le_trans bw.size hs))
          go_wp2
          go_ret
          exact ⟨rfl, bF⟩
end Go.Proofs.Ytlfnmcagpokchaa
