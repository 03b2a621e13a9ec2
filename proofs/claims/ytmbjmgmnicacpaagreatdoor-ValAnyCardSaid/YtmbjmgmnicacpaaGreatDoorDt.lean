/- The reference's DecText by its contract: it tells what dec.Text tells. Condition: the decimal may be. -/
import Derived.Test.YtmbjmgmnicacpaaGreatDoorBigO
import Derived.Test.YtmbjmgmnicacpaaGreatDoorRow5
import Derived.Test.YtmbjmgmnicacpaaGreatDoorTx9
import Derived.Laws.IdiomStrings
namespace Go.Proofs.YtmbjmgmnicacpaaGreatDoor
open Go.RowKit

theorem conv1 {x : UInt8} {z : Int} (h : z = (x.toNat : Int)) (W : World) {g : Nat} (hg : g = W.heap.size) :
    (convert 105 9 (.slice (some ⟨g, 0, none⟩) 1 1)).run Tryz.prog (W.alloc (.cells #[.int .u8 z] 5)) = .ok (.string ⟨[x].toArray⟩) (W.alloc (.cells #[.int .u8 z] 5)) := by
  subst h hg
  refine run_convert_bytes_back (P := Tryz.prog) (W.alloc (.cells #[.int .u8 (x.toNat : Int)] 5)) 105 9 5 ⟨W.heap.size, 0, none⟩ 1 [x] Tryz.underlying105 Tryz.underlying5 Tryz.underlying9 fun j hj => ?_
  have hj0 : j = 0 := by simpa using hj
  subst hj0
  rw [show (⟨W.heap.size, 0, none⟩ : Addr).add 0 = ⟨W.heap.size, 0, none⟩ from rfl, cell_of_row _ W.heap.size 0 #[.int .u8 (x.toNat : Int)] 5 (0, 0) (heap_alloc_new W _)]
  rfl
theorem pad_more {n s : Nat} {L : List Nat} (h : L ++ List.replicate (s + 1 - L.length) 0 = padded n s) (hl : L.length ≤ s) : (L ++ [0]) ++ List.replicate (s + 1 - (L ++ [0]).length) 0 = padded n s := by
  rw [← h, List.append_assoc, List.length_append]
  congr 1
  rw [show s + 1 - L.length = (s + 1 - (L.length + [0].length)) + 1 by simp; omega]
  rfl
theorem rb_len {l : List Nat} {s : Nat} : ∀ i, (rb l s i).length ≤ 2 * i
  | 0 => Nat.le_refl _
  | i + 1 => by
    have := rb_len (l := l) (s := s) i
    rw [rb, List.length_cons, List.length_append]
    split <;> simp <;> omega
theorem bt_nat {d : Nat} (h : d < 10) : ((bt d).toNat : Int) = 48 + (d : Int) := by
  unfold bt
  rw [UInt8.toNat_ofNat_of_lt' (by show _ < 256; omega)]
  omega

def boxLen (w : World) (g : Nat) : Nat := match w.cell? ⟨g, 1, none⟩ with
  | some (.slice _ n _) => n
  | _ => 0
theorem boxLen_bk {w : World} {g n c : Nat} {A : Option Addr} {T : TypeId} {x : Value} (h : Bk w g T #[x, .slice A n c]) : boxLen w g = n := by
  unfold boxLen
  rw [h.cell 1]
  rfl

set_option maxHeartbeats 4000000 in
set_option maxRecDepth 100000 in
theorem decText_any {w : World} {m : Int} {s : Nat} (h : Gd m s) :
    Calls Tryz.prog 37 #[.agg #[.int .i64 m, .int .i64 (s : Nat)]] w fun e w' => e = .returned (sL (decTx m s)) ∧ Below w.heap.size w w' := by
  have HBG := Lib.hid (fun W : World => big_own (w := W) h.lo h.hi)
  have hs9 := h.s9
  have HD : Hid (∀ d ∈ digs m.natAbs, d < 10) := Lib.hid (digs_digs m.natAbs)
  have HT : Hid (decTx m s = (if decide (m < 0) = true then [45] else []) ++ body (padded m.natAbs s) s) := Lib.hid (by unfold decTx; by_cases hm : m < 0 <;> simp [hm])
  clear h
  obtain ⟨neg, hneg⟩ : ∃ neg, decide (m < 0) = neg := ⟨_, rfl⟩
  rw [hneg] at HBG HT
  clear hneg
  obtain ⟨N, hN⟩ : ∃ N, m.natAbs = N := ⟨_, rfl⟩
  rw [hN] at HBG HD HT
  clear hN
  generalize decTx m s = T at *
  have H0 := Lib.hid (sb1 w 27 #[.int .i64 m, .int .i64 (s : Nat)])
  unfold sL
  go_enter Tryz.func37, Tryz.ntmps37
  go_wp2_with fail
  refine (HBG.out _).mono ?_
  rintro e w1 ⟨v0, k0, rfl, ho0, hk0, hb⟩
  have hz1 : w.heap.size + 1 ≤ w1.heap.size := by have := hb.size; simpa using this
  have ho1 : w1.ownsRow w.heap.size 3 1 v0 k0 (dcs (digs N)) := ⟨ho0.1, ho0.2.imp id (fun ⟨g, cap, cur, a1, a2, a3⟩ => ⟨g, cap, cur, a1, by simp at a2; omega, a3⟩)⟩
  have hbx := (H0.out.call hb).bk _ (.head _)
  have hbel1 := (H0.out.call hb).bel
  obtain ⟨A0, c0', rfl, -, -, -⟩ := own_form ho1
  have HO0 := Lib.hid (ho1.alloc (.cells #[.bool neg, .slice A0 k0 c0'] 98))
  have HB0 := Lib.hid (Bk.new w1 98 #[.bool neg, .slice A0 k0 c0'])
  have HX0 := Lib.hid (hbx.alloc (.cells #[.bool neg, .slice A0 k0 c0'] 98))
  have HL0 := Lib.hid (hbel1.alloc hbel1.size (.cells #[.bool neg, .slice A0 k0 c0'] 98))
  have hlen0 := Lib.hid (own_len ho1)
  clear ho0 ho1 hbx hbel1 hb H0 HBG
  go_wp2_with fail
  go_loopw [] (fun wr => ∃ (k : Nat) (v : Value) (L : List Nat), wr.ownsRow w.heap.size 3 1 v k (dcs L) ∧ Bk wr w1.heap.size 98 #[.bool neg, v] ∧ Bk wr w.heap.size 27 #[.int .i64 m, .int .i64 (s : Nat)] ∧ Below w.heap.size w wr ∧ Hid (L ++ List.replicate (s + 1 - L.length) 0 = padded N s) ∧ k ≤ 20) (fun wr => s + 1 - (boxLen wr w1.heap.size))
  case atStart => exact ⟨k0, _, digs N, HO0.out, HB0.out, HX0.out, HL0.out, Lib.hid rfl, by omega⟩
  case round =>
    obtain ⟨k, v, L, ho, kb, kx, hbel, HL, hk⟩ := hrel
    clear HO0 HB0 HX0 HL0 hlen0
    obtain ⟨A1, cp, rfl, -, -, -⟩ := own_form ho
    have hsz := hbel.size
    have hkl := Lib.hid (own_len ho)
    have hbl := Lib.hid (boxLen_bk kb)
    have c0 := kb.cell 0
    have c1 := kb.cell 1
    have x0 := kx.cell 0
    have x1 := kx.cell 1
    by_cases hlt : k ≤ s
    · have hlt' : (k : Int) ≤ (s : Int) := by omega
      go_wp2_with (at_builtin; refine wpList_app rowInts rfl (.tmp 16) (.tmp 17) rfl rfl rfl (ho.alloc _) (Rd.fresh _ _ 1 1 _ rfl) ?_ ?_ ?_ ?_ ?_)
      any_goals first | rfl | (unfold maxLen; omega) | omega | (intro u hu; simp at hu; subst hu; rfl) | (simp; omega)
      intro v2 w2 o2 g2 b2
      have b2' := hbel.trans (((Below.refl w.heap.size wr).alloc hsz _).trans b2)
      have k2 := g2.bk (ho.alloc _) (kb.alloc _) (by decide)
      have kx2 := g2.bk (ho.alloc _) (kx.alloc _) (by decide)
      have HL2 := Lib.hid (pad_more HL.out (by have := hkl.out; omega))
      have o3 : w2.ownsRow w.heap.size 3 1 v2 (k + 1) (dcs (L ++ [0])) := by
        simpa [dcs, iv] using o2
      obtain ⟨A2, c2, rfl, -, -, -⟩ := own_form o3
      have d0 := k2.cell 0
      have d1 := k2.cell 1
      have z1 := k2.frozen 1
      have hS : Bk (w2.setCell ⟨w1.heap.size, 1, none⟩ (.slice A2 (k + 1) c2)) w1.heap.size 98 #[.bool neg, .slice A2 (k + 1) c2] := by simpa using k2.set_ 1 (.slice A2 (k + 1) c2)
      have hbl2 := Lib.hid (boxLen_bk hS)
      clear o2 b2 ho g2 c0 c1 x0 x1
      go_wp2
      go_roundw
      case rel => exact ⟨k + 1, _, _, own_set o3 k2 (by decide), hS, kx2.other (by omega), b2'.setCell (by show w.heap.size ≤ w1.heap.size; omega) _, HL2, by omega⟩
      case measure =>
        rw [hbl.out, hbl2.out]
        omega
    · have hlt' : ¬ (k : Int) ≤ (s : Int) := by omega
      have HP : Hid (L = padded N s) := Lib.hid (by
        have := HL.out
        rw [show s + 1 - L.length = 0 by have := hkl.out; omega, List.replicate_zero, List.append_nil] at this
        exact this)
      have HDG : Hid (∀ d ∈ L, d < 10) := Lib.hid (by
        rw [HP.out]
        intro d hd
        unfold padded at hd
        rcases List.mem_append.1 hd with h | h
        · exact HD.out d h
        · rw [List.mem_replicate] at h; omega)
      have hks : Hid (s + 1 ≤ k) := Lib.hid (by omega)
      clear HL hbl
      go_wp2
      go_loopw [4, 5] (fun s4 s5 W => ∃ i : Nat, s4 = .string ⟨(rb L s i).toArray⟩ ∧ s5 = .int .i64 i ∧ i ≤ k ∧ Below wr.heap.size wr W) (fun _ s5 _ => k - (Go.RowKit.intOf s5).toNat)
      case atStart => exact ⟨0, rfl, rfl, by omega, Below.refl _ _⟩
      case round =>
        obtain ⟨i, rfl, rfl, hik, hb⟩ := hrel
        rename World => W
        clear c0 c1 x0 x1
        have kb2 := kb.below hb kb.lt
        have kx2 := kx.below hb kx.lt
        have hbw := hbel.trans (hb.mono hsz)
        have c0 := kb2.cell 0
        have c1 := kb2.cell 1
        have x0 := kx2.cell 0
        have x1 := kx2.cell 1
        by_cases hi : i < k
        · have hi' : (i : Int) < (k : Int) := by omega
          obtain ⟨a1, rfl, hab, hcell⟩ := (own_rd ho).digAt hi
          have hcellW : W.cell? (a1.add i) = some (.int .i64 ((L.getD i 0 : Nat) : Int)) := by
            rw [← hcell]
            exact hb.cell (by rw [add_block]; exact hab)
          have hd10 : L.getD i 0 < 10 := HDG.out _ (by
            rw [List.getD_eq_getElem?_getD, List.getElem?_eq_getElem (by have := hkl.out; omega)]
            exact List.getElem_mem _)
          have HR := Lib.hid (show rb L s (i + 1) = bt (L.getD i 0) :: ((if i = s ∧ 0 < i then [46] else []) ++ rb L s i) from rfl)
          have hrl := Lib.hid (rb_len (l := L) (s := s) i)
          have hbt := Lib.hid (bt_nat hd10)
          generalize L.getD i 0 = d at *
          have hdz : (48 + (d : Int)) = ((bt d).toNat : Int) := hbt.out.symm
          have hv := conv1 (x := bt d) (z := 48 + (d : Int)) hdz W rfl
          have HV := Lib.hid hdz
          clear hdz hcell
          generalize bt d = x at *
          obtain ⟨R, hR⟩ : ∃ R, rb L s i = R := ⟨_, rfl⟩
          rw [hR] at HR hrl ⊢
          clear hR
          have hRl : R.length ≤ 100 := by have := hrl.out; omega
          have hR1 : ¬ 9223372036854775807 < 1 + R.length := by omega
          have hbF : Below wr.heap.size wr (W.alloc (.cells #[.int .u8 (48 + (d : Int))] 5)) := hb.alloc hb.size _
          by_cases hc : i = s ∧ 0 < i
          · obtain ⟨rfl, hi0⟩ := hc
            have hi0' : (0 : Int) < (i : Int) := by omega
            have hR2 : ¬ 9223372036854775807 < 1 + (1 + R.length) := by omega
            have HE : Hid ((⟨[x].toArray⟩ : ByteArray) ++ ((⟨#[46]⟩ : ByteArray) ++ ⟨R.toArray⟩) = ⟨(rb L i (i + 1)).toArray⟩) := Lib.hid (by
              rw [HR.out, if_pos ⟨rfl, hi0⟩, show (⟨#[46]⟩ : ByteArray) = ⟨([46] : List UInt8).toArray⟩ from rfl, ba_app, ba_app]
              rfl)
            go_wp2
            go_roundw
            case rel => exact ⟨i + 1, by rw [← HE.out], by go_num, by omega, hbF⟩
            case measure => simp [Go.RowKit.intOf]; omega
          · have HE : Hid ((⟨[x].toArray⟩ : ByteArray) ++ (⟨R.toArray⟩ : ByteArray) = ⟨(rb L s (i + 1)).toArray⟩) := Lib.hid (by
              rw [HR.out, if_neg hc, ba_app]
              rfl)
            by_cases his : i = s
            · have hi0' : ¬ (0 : Int) < (i : Int) := by omega
              subst his
              clear hc
              go_wp2
              go_roundw
              case rel => exact ⟨i + 1, by rw [← HE.out], by go_num, by omega, hbF⟩
              case measure => simp [Go.RowKit.intOf]; omega
            · have his' : ¬ (i : Int) = (s : Int) := by omega
              go_wp2
              go_roundw
              case rel => exact ⟨i + 1, by rw [← HE.out], by go_num, by omega, hbF⟩
              case measure => simp [Go.RowKit.intOf]; omega
        · obtain rfl : i = k := by omega
          have HE : Hid (rb L s i = body (padded N s) s) := Lib.hid (by
            rw [← HP.out, ← rb_end (by have := hkl.out; have := hks.out; omega), hkl.out])
          have hlb := rb_len (l := L) (s := s) i
          rw [HE.out] at hlb ⊢
          have hlb2 : (body (padded N s) s).length ≤ 100 := by omega
          have hlb3 : ¬ 9223372036854775807 < 1 + (body (padded N s) s).length := by omega
          generalize body (padded N s) s = Y at *
          clear HE hlb HP HD
          cases neg with
          | true =>
            have hT : T = [45] ++ Y := by rw [HT.out]; rfl
            subst hT
            clear HT
            go_wp2
            go_ret
            exact ⟨congrArg (fun b => Ending.returned (Value.string b)) (ba_app [45] Y), hbw⟩
          | false =>
            have hT : T = Y := by rw [HT.out]; rfl
            subst hT
            clear HT
            go_wp2
            go_ret
            exact ⟨rfl, hbw⟩
end Go.Proofs.YtmbjmgmnicacpaaGreatDoor
