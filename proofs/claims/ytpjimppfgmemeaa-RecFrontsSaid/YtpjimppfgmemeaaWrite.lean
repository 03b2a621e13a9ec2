/- rec.putPart, putRec, Write by their contracts. Conditions: the records read as such; there are few of them. -/
import Derived.Test.YtpjimppfgmemeaaCut
namespace Go.Proofs.Ytpjimppfgmemeaa
open Go.RowKit

/-- One part in bytes. -/
def partM (kind : Int) (data : List UInt8) : List UInt8 := b2 kind ++ b2 data.length ++ data

theorem partM_len (kind : Int) (data : List UInt8) : (partM kind data).length = 4 + data.length := by simp [partM, b2]; omega

theorem putPart_any {w : World} {base B n m c : Nat} {v : Value} {xs l : List UInt8} {A : Option Addr} {k : Int} (hown : w.ownsRow base 5 1 v n (xs.map bv)) (hb : base ≤ w.heap.size) (hn : n ≤ 4294000000)
    (hk : 0 ≤ k ∧ k < 65536) (hl : Rd w B 1 A m (l.map bv)) (hB : B ≤ base) (hm : m < 65536) :
    Calls Try.prog 29 #[v, .int .i64 k, .slice A m c] w fun e w' => ∃ v', e = .returned v' ∧ w'.ownsRow base 5 1 v' (n + 4 + m) ((xs ++ partM k l).map bv) ∧ Grew w w' v v' := by
  have hlen := hl.blen
  subst hlen
  go_enter Try.func29, Try.ntmps29
  go_wp2_with fail
  refine (put16_any hown hb (by omega) hk).mono ?_
  rintro e w1 ⟨v1, rfl, o1, g1⟩
  have b1 := g1.below hown hb
  go_wp2_with fail
  refine (put16_any o1 (Nat.le_trans hb b1.size) (by omega) ⟨by omega, by omega⟩).mono ?_
  rintro e w2 ⟨v2, rfl, o2, g2⟩
  have b2_ := g2.below o1 (Nat.le_trans hb b1.size)
  have s1 := b1.size
  have s2 := b2_.size
  go_wp2_with (at_builtin; refine wpList_app bytesRow rfl (.tmp 14) (.tmp 15) rfl rfl rfl o2 (hl.belowMono (b1.trans b2_) hB) (bv_one _) ?_ ?_ ?_ ?_)
  · unfold maxLen; omega
  · omega
  · omega
  · intro v3 w3 o3 g3 _
    go_wp2
    go_ret
    refine ⟨v3, rfl, ?_, (g1.trans g2).trans g3⟩
    simp only [partM, List.map_append, List.append_assoc]
    exact o3

/-- All parts in bytes. -/
def partsM (kind : Int) (data : List UInt8) (q : Nat) : List Int → List UInt8
  | [] => partM kind (data.drop q)
  | c :: r => partM kind ((data.drop q).take (c.toNat - q)) ++ partsM 60 data c.toNat r

def putM (r : RecM) : List UInt8 := partsM r.type r.data 0 r.cuts

/-- Each part is short. -/
def shortB (q size : Int) : List Int → Prop
  | [] => size - q ≤ 224
  | c :: r => c - q ≤ 224 ∧ shortB c size r

theorem longM_short {size : Int} : ∀ (l : List Int) (m q : Int), longM m q size l ≤ 224 ↔ m ≤ 224 ∧ shortB q size l
  | [], m, q => by simp only [longM, shortB]; omega
  | c :: r, m, q => by simp only [longM, shortB]; rw [longM_short r, Int.max_le, and_assoc]

/-- What Check takes. -/
structure Good (r : RecM) : Prop where
  t0 : 0 ≤ r.type
  t1 : r.type ≤ 65535
  t2 : r.type ≠ 60
  len : r.data.length ≤ 65536
  rise : riseB 0 r.data.length r.cuts = true
  short : shortB 0 r.data.length r.cuts

theorem checkM_good {r : RecM} (h : checkM r = 0) : Good r := by
  unfold checkM at h
  split at h
  · omega
  split at h
  · omega
  split at h
  · omega
  split at h
  · omega
  rename_i h1 h2 h3 h4
  exact ⟨by omega, by omega, by omega, by omega, by simpa using h3, ((longM_short r.cuts 0 0).1 (by omega)).2⟩

theorem good_checkM {r : RecM} (h : Good r) : checkM r = 0 := by
  unfold checkM
  have h1 := h.t0; have h2 := h.t1; have h3 := h.t2; have h4 := h.len
  have h5 := (longM_short (size := r.data.length) r.cuts 0 0).2 ⟨by omega, h.short⟩
  rw [if_neg (by omega), if_neg (by omega), if_neg (by rw [h.rise]; simp), if_neg (by omega)]

theorem rise_len : ∀ (l : List Int) (q size : Int), riseB q size l = true → q ≤ size → (l.length : Int) ≤ size - q
  | [], q, size, _, h => by simp; omega
  | c :: r, q, size, h, _ => by
    obtain ⟨h1, h2, h3⟩ := riseB_cons h
    have := rise_len r c size h3 (by omega)
    simp; omega


theorem Rd.sub {w : World} {B n : Nat} {a : Addr} {l : List UInt8} (h : Rd w B 1 (some a) n (l.map bv)) {i j : Nat} (hij : i ≤ j) (hj : j ≤ n) :
    Rd w B 1 (some (a.add i)) (j - i) (((l.drop i).take (j - i)).map bv) := by
  have := h.cut (cap := n + i + 1) hij hj (by omega)
  rw [if_neg (by omega)] at this
  simpa using this

theorem putRec_any {w : World} {base B n : Nat} {v : Value} {xs : List UInt8} {r : RecM} {D C : Option Addr} {dc cc : Nat} (hown : w.ownsRow base 5 1 v n (xs.map bv)) (hb : base ≤ w.heap.size) (hn : n ≤ 4000000000)
    (h : RecRd w B r D dc C cc) (hB : B ≤ base) (hg : Good r) :
    Calls Try.prog 24 #[v, .agg #[.int .i64 r.type, .slice D r.data.length dc, .slice C r.cuts.length cc, .int .i64 r.at_]] w fun e w' =>
      ∃ v', e = .returned v' ∧ w'.ownsRow base 5 1 v' (xs ++ putM r).length ((xs ++ putM r).map bv) ∧ Grew w w' v v' := by
  obtain ⟨hd, hc, ⟨d0, d1⟩, ⟨c0, c1⟩, _⟩ := h
  obtain ⟨t, data, cuts, at_⟩ := r
  obtain ⟨t0, t1, t2, hlen, hrise, hshort⟩ := hg
  simp only at *
  have hcl := rise_len cuts 0 data.length hrise (by omega)
  generalize hdn : data.length = dn at *
  generalize hcn : cuts.length = cn at *
  have HD := Lib.hid hdn
  have HR := Lib.hid hrise
  have HS := Lib.hid hshort
  have hxl : xs.length = n := by have := hown.1; simp at this; exact this
  have HX := Lib.hid hxl
  clear hdn hcn hrise hshort hxl t2
  go_enter Try.func24, Try.ntmps24
  go_wp2
  go_loopw [0, 5, 6, 14] (fun vv kd fm i wr => ∃ (k q m : Nat) (K : Int) (acc : List UInt8), i = .int .i64 k ∧ kd = .int .i64 K ∧ fm = .int .i64 q ∧ k ≤ cn ∧ 0 ≤ K ∧ K ≤ 65535 ∧ q ≤ dn ∧ m ≤ n + 228 * k ∧
      wr.ownsRow base 5 1 vv m (acc.map bv) ∧ Grew w wr v vv ∧ Bk wr w.heap.size 30 #[.int .i64 t, .slice D dn dc, .slice C cn cc, .int .i64 at_] ∧
      Hid (xs ++ partsM t data 0 cuts = acc ++ partsM K data q (cuts.drop k)) ∧ Hid (riseB q dn (cuts.drop k) = true) ∧ Hid (shortB q dn (cuts.drop k))) (fun _ _ _ i _ => cn - (intOf i).toNat)
  case atStart => exact ⟨0, 0, n, t, xs, rfl, rfl, rfl, by omega, by omega, by omega, by omega, by omega, hown.alloc _, (Grew.refl _ _).of_same ((Below.refl w.heap.size w).alloc (Nat.le_refl _) _) (Nat.le_refl _), Bk.new _ _ _, rfl, HR.out, HS.out⟩
  case round =>
    obtain ⟨k, q, m, K, acc, rfl, rfl, rfl, hk, K0, K1, hq, hm, ho, hgr, hbk, HE, HR', HS'⟩ := hrel
    have hbel := hgr.below hown hb
    have hc' := hc.belowMono hbel hB
    have hd' := hd.belowMono hbel hB
    have b0 := hbk.cell 0
    have b1 : wr.cell? ⟨w.heap.size, 1, none⟩ = some (.slice D dn dc) := hbk.cell 1
    clear b0
    by_cases hkn : k < cn
    · obtain ⟨a, x, rfl, _, hcell, _, hdrop⟩ := hc'.intAt hkn
      rw [hdrop] at HE HR' HS'
      obtain ⟨x0, x1, HR2⟩ := riseB_cons HR'.out
      have x2 := HS'.out.1
      have HS2 := Lib.hid HS'.out.2
      have HR2 := Lib.hid HR2
      clear hdrop HS' HR'
      obtain ⟨X, rfl⟩ := Int.eq_ofNat_of_zero_le (show 0 ≤ x by omega)
      obtain ⟨da, rfl, _⟩ := hd.at_ (by omega)
      have hsub := hd'.sub (i := q) (j := X) (by omega) (by omega)
      have HE2 : Hid (xs ++ partsM t data 0 cuts = (acc ++ partM K ((data.drop q).take (X - q))) ++ partsM 60 data X (cuts.drop (k + 1))) := Lib.hid (by rw [HE.out, List.append_assoc, partsM, Int.toNat_natCast])
      clear HE
      have hbs := hbel.size
      go_wp2_with fail
      refine (putPart_any ho (Nat.le_trans hb hbs) (by omega) ⟨K0, by omega⟩ hsub hB (by omega)).mono ?_
      rintro e w1 ⟨v1, rfl, o1, g1⟩
      go_wp2
      go_roundw
      case rel => exact ⟨k + 1, X, _, 60, _, by go_num, rfl, rfl, by omega, by omega, by omega, by omega, by omega, o1, hgr.trans g1, g1.bk ho hbk (by decide), HE2, HR2, HS2⟩
      case measure => simp [intOf]; omega
    · have hdrop : cuts.drop k = [] := List.drop_eq_nil_of_le (by have := hc.ilen; omega)
      rw [hdrop] at HE HS'
      have h3 := HS'.out
      have hbs := hbel.size
      simp only [shortB] at h3
      clear hdrop HS' HR'
      have hdl := hd.blen
      have HL := Lib.hid hdl
      clear hdl
      have fin : ∀ (v' : Value) (w' : World), w'.ownsRow base 5 1 v' (m + 4 + (dn - q)) ((acc ++ partM K (data.drop q)).map bv) → w'.ownsRow base 5 1 v' (xs ++ putM ⟨t, data, cuts, at_⟩).length ((xs ++ putM ⟨t, data, cuts, at_⟩).map bv) := by
        intro v' w' h
        have e : xs ++ putM ⟨t, data, cuts, at_⟩ = acc ++ partM K (data.drop q) := HE.out
        have hl := h.1
        simp only [List.length_map] at hl
        rw [e, show (acc ++ partM K (data.drop q)).length = m + 4 + (dn - q) by omega]
        exact h
      have FIN := Lib.hid fin
      clear fin HE
      cases D with
      | none =>
        have h0 : dn = 0 := by
          rcases Nat.eq_zero_or_pos dn with h0 | h0
          · exact h0
          · obtain ⟨a, ha, _⟩ := hd.at_ h0; cases ha
        subst h0
        obtain rfl : q = 0 := by omega
        have hd0 : data.drop 0 = [] := List.eq_nil_of_length_eq_zero (by have := HL.out; simpa using this)
        rw [hd0] at FIN
        clear hd0
        go_wp2_with fail
        refine (putPart_any (m := 0) (l := []) ho (Nat.le_trans hb hbs) (by omega) ⟨K0, by omega⟩ (Rd.nil _ _ _ _) hB (by omega)).mono ?_
        rintro e w1 ⟨v1, rfl, o1, g1⟩
        go_wp2
        go_ret
        exact ⟨v1, rfl, FIN.out _ _ o1, hgr.trans g1⟩
      | some da =>
        by_cases hqc : dc = q
        · subst hqc
          obtain rfl : dn = dc := by omega
          have hd0 : data.drop dn = [] := List.drop_eq_nil_of_le (by have := HL.out; omega)
          rw [hd0] at FIN
          clear hd0
          go_wp2_with fail
          refine (putPart_any (m := 0) (l := []) ho (Nat.le_trans hb hbs) (by omega) ⟨K0, by omega⟩ (Rd.nil _ _ _ _) hB (by omega)).mono ?_
          rintro e w1 ⟨v1, rfl, o1, g1⟩
          go_wp2
          go_ret
          have F := FIN.out v1 w1
          rw [Nat.sub_self] at F
          exact ⟨v1, rfl, F o1, hgr.trans g1⟩
        · have hsub := hd'.sub (i := q) (j := dn) (by omega) (by omega)
          rw [List.take_of_length_le (by rw [List.length_drop, HL.out]; omega)] at hsub
          go_wp2_with fail
          refine (putPart_any ho (Nat.le_trans hb hbs) (by omega) ⟨K0, by omega⟩ hsub hB (by omega)).mono ?_
          rintro e w1 ⟨v1, rfl, o1, g1⟩
          go_wp2
          go_ret
          exact ⟨v1, rfl, FIN.out _ _ o1, hgr.trans g1⟩
end Go.Proofs.Ytpjimppfgmemeaa
