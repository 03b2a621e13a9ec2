/- The law RecCuts: it returns true for every n, c, cuts, and nothing that was there has turned; known's contract is a premise here. -/
import Derived.Test.YtpjimppfgmemeaaBack
import Derived.Deep.RegionHeld3
namespace Go.Proofs.Ytpjimppfgmemeaa
open Go.RowKit

def KnownSaid : Prop := ∀ w : World, Calls Try.prog 7 #[] w fun e w' => e = .returned (.bool true) ∧ Below w.heap.size w w'

/-- The bytes that the law fills in: k of n. -/
def fillL (c : UInt8) (n k : Nat) : List UInt8 := (List.range n).map fun (j : Nat) => if j < k then c + UInt8.ofNat j else 0
theorem fillL_len (c : UInt8) (n k : Nat) : (fillL c n k).length = n := by simp [fillL]

def zs (n : Nat) : Array Value := ((List.replicate n (0 : UInt8)).map bv).toArray

theorem made_one' (x : Value) (n : Nat) : madeCells #[x] (n * 1) = (List.replicate n x).toArray := by
  refine Array.toList_inj.1 (List.ext_getElem? fun i => ?_)
  simp only [madeCells, Nat.mul_one, List.size_toArray, List.length_cons, List.length_nil, Nat.zero_add, Nat.mod_one, Array.toList_map, List.getElem?_map]
  simp only [Array.toList_range, List.getElem?_replicate]
  by_cases h : i < n <;> simp [h]

theorem run_make_bytes (n : Nat) (hn : n ≤ 1000000) (W : World) : (Instr.makeSlice 24 (.int .i64 (n : Int)) (.int .i64 (n : Int))).run Try.prog W = .ok (.slice (some ⟨W.heap.size, 0, none⟩) n n) (W.alloc (.cells (zs n) 5)) := by
  obtain ⟨i, hi, h0, h1, h2⟩ := bytesRow.info
  have h := run_make (P := Try.prog) W 24 5 i _ bytesRow.under hi h0 .i64 .i64 n n (by omega) (by omega) (by rw [h2]; omega) (by omega)
  rw [h, h1, Int.toNat_natCast]
  have e : madeCells (Value.int .u8 0).cells (n * 1) = zs n := by
    show madeCells #[Value.int .u8 0] (n * 1) = _
    rw [made_one', zs, List.map_replicate]
    rfl
  rw [e]

theorem zs_fill (c : UInt8) (n : Nat) : zs n = ((fillL c n 0).map bv).toArray := by
  have : fillL c n 0 = List.replicate n (0 : UInt8) := by
    refine List.ext_getElem? fun i => ?_
    simp only [fillL, List.getElem?_map, List.getElem?_replicate]
    by_cases h : i < n <;> simp [h]
  rw [this, zs]

theorem fill_step (c : UInt8) (n k : Nat) : (((fillL c n k).map bv).toArray).setIfInBounds k (bv (c + UInt8.ofNat k)) = ((fillL c n (k + 1)).map bv).toArray := by
  refine Array.toList_inj.1 (List.ext_getElem? fun i => ?_)
  simp only [Array.toList_setIfInBounds, List.getElem?_set, fillL, List.map_map, List.getElem?_map, List.length_map, List.length_range]
  by_cases hk : k = i
  · subst hk
    by_cases h : k < n <;> simp [h]
  · by_cases h : i < n
    · have e : (i < k) ↔ (i < k + 1) := by omega
      simp [hk, h, e]
    · simp [hk, h]

/-- The cuts as they should be are taken. -/
theorem cutsFrom_good (k : Nat) : ∀ (q n : Int), 0 ≤ q → (k = 0 ∨ q + 224 * k < n) → n - q - 224 * k ≤ 224 →
    riseB q n ((List.range k).map fun (i : Nat) => q + 224 * ((i : Int) + 1)) = true ∧ shortB q n ((List.range k).map fun (i : Nat) => q + 224 * ((i : Int) + 1)) := by
  induction k with
  | zero => intro q n h0 h1 h2; simp only [List.range_zero, List.map_nil, riseB, shortB]; exact ⟨trivial, by omega⟩
  | succ k ih =>
    intro q n h0 h1 h2
    rw [List.range_succ_eq_map]
    simp only [List.map_cons, List.map_map]
    have e : ((fun (i : Nat) => q + 224 * ((i : Int) + 1)) ∘ Nat.succ) = fun (i : Nat) => (q + 224) + 224 * ((i : Int) + 1) := by
      funext i
      simp only [Function.comp, Nat.succ_eq_add_one]
      omega
    rw [e]
    have e2 : q + 224 * (((0 : Nat) : Int) + 1) = q + 224 := by omega
    rw [e2]
    obtain ⟨a, b⟩ := ih (q + 224) n (by omega) (by omega) (by omega)
    refine ⟨?_, ?_⟩
    · simp only [riseB, Bool.and_eq_true, Bool.not_eq_true', Bool.or_eq_false_iff, decide_eq_false_iff_not]
      exact ⟨⟨by omega, by omega⟩, a⟩
    · simp only [shortB]
      exact ⟨by omega, b⟩

theorem cutsK_good (t : Int) (l : List UInt8) (a : Int) (h0 : 0 ≤ t) (h1 : t ≤ 65535) (h2 : t ≠ 60) (hl : l.length ≤ 65536) : Good ⟨t, l, cutsK ((l.length - 1) / 224), a⟩ := by
  have e : cutsK ((l.length - 1) / 224) = (List.range ((l.length - 1) / 224)).map fun (i : Nat) => (0 : Int) + 224 * ((i : Int) + 1) := by simp [cutsK]
  obtain ⟨r, s⟩ := cutsFrom_good ((l.length - 1) / 224) 0 l.length (by omega) (by omega) (by omega)
  rw [← e] at r s
  exact ⟨h0, h1, h2, hl, r, s⟩


theorem bv_add (c : UInt8) (k : Nat) : bv (c + UInt8.ofNat k) = .int .u8 (((c.toNat : Int) + (k : Int)) % 256) := by
  unfold bv
  rw [UInt8.toNat_add, UInt8.toNat_ofNat']
  congr 1
  omega

theorem Rd.of_bk {w : World} {g : Nat} {t : TypeId} {l : List Value} (h : Bk w g t l.toArray) : Rd w (g + 1) 1 (some ⟨g, 0, none⟩) l.length l := by
  refine ⟨by omega, fun _ => ⟨_, rfl, Nat.lt_succ_self _, fun j u hu => ?_⟩⟩
  have hadd : (⟨g, 0, none⟩ : Addr).add j = ⟨g, j, none⟩ := addr_zero _ _
  rw [hadd, h.cell j]
  simpa using hu

/-- What the law's last statement reads. -/
structure CF (w : World) (g gb lc : Nat) (DL CL DA CA : Option Addr) (dlc clc dc cc k q : Nat) (dl : List UInt8) (W : World) : Prop where
  bel : Below w.heap.size w W
  row : RecsOwn W w.heap.size (.slice (some ⟨g, 0, none⟩) 1 lc) [⟨⟨7, dl, cutsK q, 0⟩, .slice DL k dlc, .slice CL q clc⟩]
  box : Bk W gb 30 #[.int .i64 7, .slice DA k dc, .slice CA q cc, .int .i64 5]
  da : Rd W W.heap.size 1 DA k (dl.map bv)
  ca : Rd W W.heap.size 1 CA q ((cutsK q).map iv)
  len : dl.length = k
  hdc : k ≤ dc
  hcc : q ≤ cc
  hk : k ≤ 3000
  hq : q ≤ 3000

section
variable {w : World} {g gb lc : Nat} {DL CL DA CA : Option Addr} {dlc clc dc cc k q : Nat} {dl : List UInt8} {W W' : World}
theorem CF.below (h : CF w g gb lc DL CL DA CA dlc clc dc cc k q dl W) (hb : Below W.heap.size W W') : CF w g gb lc DL CL DA CA dlc clc dc cc k q dl W' :=
  ⟨h.bel.trans (hb.mono h.bel.size), h.row.below hb, h.box.below hb h.box.lt, (h.da.below hb).mono hb.size, (h.ca.below hb).mono hb.size, h.len, h.hdc, h.hcc, h.hk, h.hq⟩
theorem CF.drew (h : CF w g gb lc DL CL DA CA dlc clc dc cc k q dl W) : CF w g gb lc DL CL DA CA dlc clc dc cc k q dl W.drew := h.below (Below.refl _ _).drew

theorem CF.s (h : CF w g gb lc DL CL DA CA dlc clc dc cc k q dl W) : CF w g gb lc DL CL DA CA dlc clc dc cc k q dl W ∧ W.cell? ⟨g, 0, none⟩ = some (.int .i64 7) ∧ W.cell? ⟨g, 1, none⟩ = some (.slice DL k dlc) ∧ W.cell? ⟨g, 2, none⟩ = some (.slice CL q clc) ∧ W.cell? ⟨g, 3, none⟩ = some (.int .i64 0) ∧ W.cell? ⟨gb, 0, none⟩ = some (.int .i64 7) ∧ W.cell? ⟨gb, 1, none⟩ = some (.slice DA k dc) ∧ W.cell? ⟨gb, 2, none⟩ = some (.slice CA q cc) ∧ W.cell? ⟨gb, 3, none⟩ = some (.int .i64 5) := by
  have hrow := h.row.row.cells (g := g) rfl
  exact ⟨h, hrow 0 _ rfl, hrow 1 _ rfl, hrow 2 _ rfl, hrow 3 _ rfl, h.box.cell 0, h.box.cell 1, h.box.cell 2, h.box.cell 3⟩

theorem CF.same (h : CF w g gb lc DL CL DA CA dlc clc dc cc k q dl W) : Calls Try.prog 20 #[.agg #[.int .i64 7, .slice DL k dlc, .slice CL q clc, .int .i64 0], .agg #[.int .i64 7, .slice DA k dc, .slice CA q cc, .int .i64 5]] W
    fun e w' => e = .returned (.bool true) ∧ Below W.heap.size W w' := by
  have hl := h.len
  have hcl := cutsK_len q
  have o1 := h.row.data ⟨⟨7, dl, cutsK q, 0⟩, .slice DL k dlc, .slice CL q clc⟩ (by simp)
  have o2 := h.row.cuts ⟨⟨7, dl, cutsK q, 0⟩, .slice DL k dlc, .slice CL q clc⟩ (by simp)
  simp only [hl, hcl] at o1 o2
  obtain ⟨_, _, hv, h1, _, r1⟩ := own_form o1
  injection hv with hA _ hc
  subst hA hc
  obtain ⟨_, _, hv, h2, _, r2⟩ := own_form o2
  injection hv with hA _ hc
  subst hA hc
  have hk := h.hk
  have hq := h.hq
  have q1 : RecRd W W.heap.size ⟨7, dl, cutsK q, 0⟩ DL dlc CL clc := ⟨by rw [hl]; exact r1, by rw [hcl]; exact r2, ⟨by rw [hl]; exact h1, by rw [hl]; omega⟩, ⟨by rw [hcl]; exact h2, by rw [hcl]; omega⟩, ⟨by show _ ≤ (7 : Int); omega, by show (7 : Int) ≤ _; omega⟩⟩
  have q2 : RecRd W W.heap.size ⟨7, dl, cutsK q, 5⟩ DA dc CA cc := ⟨by rw [hl]; exact h.da, by rw [hcl]; exact h.ca, ⟨by rw [hl]; exact h.hdc, by rw [hl]; omega⟩, ⟨by rw [hcl]; exact h.hcc, by rw [hcl]; omega⟩, ⟨by show _ ≤ (7 : Int); omega, by show (7 : Int) ≤ _; omega⟩⟩
  have := same_any q1 q2 (Nat.le_refl _)
  simp only [hl, hcl] at this
  have e : sameM ⟨7, dl, cutsK q, 0⟩ ⟨7, dl, cutsK q, 5⟩ = true := by simp [sameM]
  rw [e] at this
  exact this
end

theorem recs_one {w : World} {B g : Nat} {r : RecM} {D C : Option Addr} {dc cc : Nat} (hk : Bk w g 30 #[.int .i64 r.type, .slice D r.data.length dc, .slice C r.cuts.length cc, .int .i64 r.at_]) (hr : RecRd w B r D dc C cc) (hB : B ≤ g) :
    RecsRd w (g + 1) (some ⟨g, 0, none⟩) 1 [r] := by
  refine ⟨rfl, fun _ => ⟨_, rfl, Nat.lt_succ_self _, fun i s hs => ?_⟩⟩
  match i, hs with
  | 0, hs =>
    simp at hs
    subst hs
    exact ⟨D, dc, C, cc, hr.mono (by omega), Nat.lt_succ_self _, hk.cell 0, hk.cell 1, hk.cell 2, hk.cell 3⟩

theorem one_item {S : List Item} {r : RecM} (h : S.map (·.r) = [r]) : ∃ d c, S = [⟨r, d, c⟩] := by
  match S, h with
  | [⟨r', d, c⟩], h =>
    simp only [List.map_cons, List.map_nil, List.cons.injEq, and_true] at h
    subst h
    exact ⟨d, c, rfl⟩

theorem read_one {r : RecM} (hg : Good r) : readAll (putM r) = ([{ r with at_ := 0 }], 0, 0) := by
  have := on_rec hg [] 0 []
  rw [List.append_nil, on_nil] at this
  exact this

set_option maxHeartbeats 4000000 in
set_option maxRecDepth 100000 in
theorem recCuts_any (hkn : KnownSaid) {w : World} {B m cap : Nat} {n : Int} {c : UInt8} {A : Option Addr} {cuts : List Int} (h : Rd w B 1 A m (cuts.map iv)) (hmc : m ≤ cap) (hn : 0 ≤ n ∧ n ≤ 65535) (hB : B ≤ w.heap.size) :
    Calls Try.prog 4 #[.int .u16 n, .int .u8 c.toNat, .slice A m cap] w fun e w' => e = .returned (.bool true) ∧ Below w.heap.size w w' := by
  obtain ⟨n0, n1⟩ := hn
  by_cases hbig : 3000 < n
  · go_enter Try.func4, Try.ntmps4
    go_wp2_with fail
    refine (hkn _).mono ?_
    rintro e w1 ⟨rfl, hb1⟩
    go_wp2
    go_ret
    exact ⟨rfl, hb1⟩
  by_cases hmb : 30 < m
  · have hmb' : (30 : Int) < (m : Int) := by omega
    go_enter Try.func4, Try.ntmps4
    go_wp2_with fail
    refine (hkn _).mono ?_
    rintro e w1 ⟨rfl, hb1⟩
    go_wp2
    go_ret
    exact ⟨rfl, hb1⟩
  have hmb' : ¬ (30 : Int) < (m : Int) := by omega
  obtain ⟨N, rfl⟩ := Int.eq_ofNat_of_zero_le n0
  have hmk := run_make_bytes N (by omega)
  go_enter Try.func4, Try.ntmps4
  go_wp2_with fail
  refine (hkn _).mono ?_
  rintro e w1 ⟨rfl, hb1⟩
  go_wp2
  go_loopw [8] (fun i wr => ∃ k : Nat, i = .int .i64 k ∧ k ≤ N ∧ Bk wr w1.heap.size 5 ((fillL c N k).map bv).toArray ∧ Below w1.heap.size w1 wr) (fun i _ => N - (intOf i).toNat)
  case atStart => exact ⟨0, rfl, by omega, by rw [← zs_fill]; exact Bk.new _ _ _, (Below.refl _ _).alloc (Nat.le_refl _) _⟩
  case round =>
    obtain ⟨k, rfl, hk, hbk, hbl⟩ := hrel
    by_cases hkN : k < N
    · have hcell : wr.cell? ⟨w1.heap.size, k, none⟩ = some (bv (fillL c N k)[k]!) := by
        rw [hbk.cell k]
        have : k < (fillL c N k).length := by rw [fillL_len]; exact hkN
        simp [this]
      have hfr := hbk.frozen k
      have hst := hbk.set_ k (bv (c + UInt8.ofNat k))
      rw [fill_step] at hst
      have HST := Lib.hid hst
      clear hst
      rw [bv_add] at HST
      go_wp2
      exact ⟨⟨k + 1, by go_num, by omega, HST.out, hbl.setCell (p := ⟨w1.heap.size, k, none⟩) (Nat.le_refl _) _⟩, by simp [intOf]; omega⟩
    · obtain rfl : k = N := by omega
      have hrd := Rd.of_bk hbk
      simp only [List.length_map, fillL_len] at hrd
      have hwB : Below w.heap.size w wr := hb1.trans (hbl.mono hb1.size)
      have hdl : (fillL c k k).length = k := fillL_len _ _ _
      generalize fillL c k k = dl at *
      have hrr : RecRd wr wr.heap.size ⟨7, dl, cuts, 5⟩ (some ⟨w1.heap.size, 0, none⟩) k A cap :=
        ⟨by rw [hdl]; exact hrd.mono hbk.lt, by have := h.ilen; subst this; exact (h.belowMono hwB hB).mono (Nat.le_trans hB hwB.size), ⟨by rw [hdl]; omega, by rw [hdl]; omega⟩, ⟨by rw [h.ilen]; exact hmc, by rw [h.ilen]; omega⟩, ⟨by show _ ≤ (7 : Int); omega, by show (7 : Int) ≤ _; omega⟩⟩
      have hcut := cut_any hrr (Nat.le_refl _) (by simp only [hdl]; omega)
      simp only [hdl, h.ilen] at hcut
      have Hcut := Lib.hid hcut
      have HDL := Lib.hid hdl
      clear hcut hdl hrr
      go_wp2_with fail
      refine Hcut.out.mono ?_
      rintro e w2 ⟨dv, cv, rfl, od, oc, hb2⟩
      obtain ⟨DA, dc, rfl, hdc, _, rd⟩ := own_form od
      obtain ⟨CA, cc, rfl, hcc, _, rc⟩ := own_form oc
      have hgood := cutsK_good 7 dl 5 (by omega) (by omega) (by omega) (by rw [HDL.out]; omega)
      rw [HDL.out] at hgood
      generalize hq : (k - 1) / 224 = q at *
      have hlb : (putM ⟨7, dl, cutsK q, 5⟩).length = k + 4 * (q + 1) := by
        have := partsM_len dl (cutsK q) 0 7 (by have := hgood.rise; simpa using this) (by omega)
        rw [HDL.out, cutsK_len] at this
        exact this
      have hro := read_one hgood
      have hwm : writeM [⟨7, dl, cutsK q, 5⟩] = (putM ⟨7, dl, cutsK q, 5⟩, 0) := by
        simp [writeM, good_checkM hgood]
      have Hgood := Lib.hid hgood
      have HQ := Lib.hid hq
      have HLB := Lib.hid hlb
      have HWM := Lib.hid hwm
      have HRO := Lib.hid hro
      clear hro
      have hqk : q ≤ k := by omega
      have HCL := Lib.hid (cutsK_len q)
      clear hgood hlb hwm
      -- the world behind the second box
      obtain ⟨Wb, hWb⟩ : ∃ Wb, Wb = w2.alloc (.cells #[.int .i64 7, .slice DA k dc, .slice CA q cc, .int .i64 5] 30) := ⟨_, rfl⟩
      have hbW : Below w2.heap.size w2 Wb := by rw [hWb]; exact (Below.refl _ _).alloc (Nat.le_refl _) _
      have kW : Bk Wb w2.heap.size 30 #[.int .i64 7, .slice DA k dc, .slice CA q cc, .int .i64 5] := by rw [hWb]; exact Bk.new _ _ _
      have rdW : Rd Wb w2.heap.size 1 DA k (dl.map bv) := rd.below hbW
      have rcW : Rd Wb w2.heap.size 1 CA q ((cutsK q).map iv) := rc.below hbW
      have rrW : Rd Wb w2.heap.size 1 (some ⟨w1.heap.size, 0, none⟩) k (dl.map bv) := ((hrd.mono hbk.lt).below hb2 |>.mono hb2.size).below hbW
      have e1 := run_str (c := dc) rdW
      have e2 := run_str (c := k) rrW
      have hrW : RecRd Wb w2.heap.size ⟨7, dl, cutsK q, 5⟩ DA dc CA cc := ⟨by rw [HDL.out]; exact rdW, by rw [HCL.out]; exact rcW, ⟨by rw [HDL.out]; exact hdc, by rw [HDL.out]; omega⟩, ⟨by rw [HCL.out]; exact hcc, by rw [HCL.out]; omega⟩, ⟨by show _ ≤ (7 : Int); omega, by show (7 : Int) ≤ _; omega⟩⟩
      have hchk := check_any hrW hbW.size
      simp only [HDL.out, HCL.out, good_checkM Hgood.out] at hchk
      have Hchk := Lib.hid hchk
      have x0 : Wb.cell? ⟨w2.heap.size, 0, none⟩ = some (.int .i64 7) := kW.cell 0
      have x1 : Wb.cell? ⟨w2.heap.size, 1, none⟩ = some (.slice DA k dc) := kW.cell 1
      have x2 : Wb.cell? ⟨w2.heap.size, 2, none⟩ = some (.slice CA q cc) := kW.cell 2
      have x3 : Wb.cell? ⟨w2.heap.size, 3, none⟩ = some (.int .i64 5) := kW.cell 3
      have hwW : Below w.heap.size w Wb := (hwB.trans (hb2.mono hwB.size)).trans (hbW.mono (Nat.le_trans hwB.size hb2.size))
      subst hWb
      clear hchk hwB hbl hb1 h hmk rd rc od oc hrd hbk hb2 hk
      rcases Nat.eq_zero_or_pos k with hk0 | hk0
      · have hqb : ((q : Int) != 0) = false := by simp; omega
        have hk0' : k ≤ 0 := by omega
        have hlq : ((k + 4 * (q + 1) : Nat) : Int) = (k : Int) + 4 := by have := HQ.out; omega
        clear hq hk0
        go_wp2_with fail
        refine Hchk.out.mono ?_
        rintro e w3 ⟨rfl, hb3⟩
        have k3 := kW.below hb3 kW.lt
        have y0 : w3.cell? ⟨w2.heap.size, 0, none⟩ = some (.int .i64 7) := k3.cell 0
        have y1 : w3.cell? ⟨w2.heap.size, 1, none⟩ = some (.slice DA k dc) := k3.cell 1
        have y2 : w3.cell? ⟨w2.heap.size, 2, none⟩ = some (.slice CA q cc) := k3.cell 2
        have y3 : w3.cell? ⟨w2.heap.size, 3, none⟩ = some (.int .i64 5) := k3.cell 3
        have hr3 := hrW.below (hb3.mono hbW.size)
        have hs3 := hb3.size
        have hsW := hbW.size
        have hrs : RecsRd (w3.alloc (.cells #[.int .i64 7, .slice DA k dc, .slice CA q cc, .int .i64 5] 30)) (w3.heap.size + 1) (some ⟨w3.heap.size, 0, none⟩) 1 [⟨7, dl, cutsK q, 5⟩] := by
          refine recs_one (B := w2.heap.size) (D := DA) (dc := dc) (C := CA) (cc := cc) ?_ (hr3.below ((Below.refl _ _).alloc (by omega) _)) (by omega)
          simp only [HDL.out, HCL.out]
          exact Bk.new _ _ _
        have hwr := write_any (c := 1) hrs (by simp) (by omega)
        rw [HWM.out] at hwr
        have Hwr := Lib.hid hwr
        clear x0 x1 x2 x3 e1 e2 hqb hwr
        go_wp2_with fail
        refine Hwr.out.mono ?_
        rintro e w4 ⟨bvv, rfl, ob, hb4⟩
        obtain ⟨WA, wc, rfl, hwc, _, rb⟩ := own_form ob
        clear y0 y1 y2 y3 ob Hwr
        have hrdA := read_any (c := wc) rb hwc (by rw [HLB.out]; omega) (Nat.le_refl _)
        rw [HRO.out] at hrdA
        have Hrd := Lib.hid hrdA
        clear hrdA
        go_wp2_with fail
        refine Hrd.out.mono ?_
        rintro e w5 ⟨l, S, rfl, ol, hm, _, hb5⟩
        obtain ⟨d0, c0, rfl⟩ := one_item hm
        have o1 : w5.ownsRow w4.heap.size 5 1 d0 k (dl.map bv) := by have := ol.data _ (List.mem_singleton_self _); simp only [HDL.out] at this; exact this
        have o2 : w5.ownsRow w4.heap.size 3 1 c0 q ((cutsK q).map iv) := by have := ol.cuts _ (List.mem_singleton_self _); simp only [HCL.out] at this; exact this
        obtain ⟨DL, dlc, rfl, _, _, _⟩ := own_form o1
        obtain ⟨CL, clc, rfl, _, _, _⟩ := own_form o2
        obtain ⟨g, lc, rfl⟩ : ∃ g lc, l = .slice (some ⟨g, 0, none⟩) 1 lc := by
          rcases ol.row.2 with ⟨_, h0⟩ | ⟨g, cap, _, rfl, _⟩
          · exact absurd h0 (by simp)
          · exact ⟨g, cap, rfl⟩
        have ha3 : Below w3.heap.size w3 (w3.alloc (.cells #[.int .i64 7, .slice DA k dc, .slice CA q cc, .int .i64 5] 30)) := (Below.refl _ _).alloc (Nat.le_refl _) _
        have hb35 : Below w3.heap.size w3 w5 := (ha3.trans (hb4.mono ha3.size)).trans (hb5.mono (Nat.le_trans ha3.size hb4.size))
        have hw5 : Below w.heap.size w w5 := (hwW.trans (hb3.mono hwW.size)).trans (hb35.mono (Nat.le_trans hwW.size hb3.size))
        have hs5 := hb35.size
        have hs4 := hb4.size
        have hsa := ha3.size
        have F0 : CF w g w2.heap.size lc DL CL DA CA dlc clc dc cc k q dl w5 := by
          refine ⟨hw5, ⟨own_mono ol.row (by have := hwW.size; omega), fun x hx => own_mono (ol.data x hx) (by have := hwW.size; omega), fun x hx => own_mono (ol.cuts x hx) (by have := hwW.size; omega), ol.dapart, ol.capart⟩,
            k3.below hb35 k3.lt, ?_, ?_, HDL.out, hdc, hcc, by omega, by omega⟩
          · exact ((rdW.below (hb3.mono hbW.size)).below (hb35.mono (by omega))).mono (by omega)
          · exact ((rcW.below (hb3.mono hbW.size)).below (hb35.mono (by omega))).mono (by omega)
        generalize hLB : (putM ⟨7, dl, cutsK q, 5⟩).length = LB at *
        have hlb : (((LB : Nat) : Int) == IntKind.i64.wrap ((k : Int) + 4)) = true := by
          have := HLB.out
          rw [IntWalk.i64_in _ (by omega), this, ← hlq]
          simp
        have w1' : IntKind.i64.wrap 1 = 1 := by decide
        have w4' : IntKind.i64.wrap 4 = 4 := by decide
        have w0 : IntKind.i64.wrap 0 = 0 := by decide
        clear hLB hlq ol o1 o2 hw5 hb35 hb4 hb5 ha3 hs5 hs4 hsa k3 hr3 hrs hbW hb3 hwW kW hrW rb rdW rcW rrW hm hs3 hsW
        go_wp2_with fail
        go_region_held3 (fun W => CF w g w2.heap.size lc DL CL DA CA dlc clc dc cc k q dl W ∧ W.cell? ⟨g, 0, none⟩ = some (.int .i64 7) ∧ W.cell? ⟨g, 1, none⟩ = some (.slice DL k dlc) ∧ W.cell? ⟨g, 2, none⟩ = some (.slice CL q clc) ∧ W.cell? ⟨g, 3, none⟩ = some (.int .i64 0) ∧ W.cell? ⟨w2.heap.size, 0, none⟩ = some (.int .i64 7) ∧ W.cell? ⟨w2.heap.size, 1, none⟩ = some (.slice DA k dc) ∧ W.cell? ⟨w2.heap.size, 2, none⟩ = some (.slice CA q cc) ∧ W.cell? ⟨w2.heap.size, 3, none⟩ = some (.int .i64 5))
          (first | exact F0.drew.s | exact CF.s (by assumption))
          ((go_at_call 20; (have F := (by assumption : CF w g w2.heap.size lc DL CL DA CA dlc clc dc cc k q dl _ ∧ _).1); (with_reducible refine (CF.same F).mono ?_); rintro e w' ⟨rfl, hb⟩; have F' := F.below hb))
        go_wp2
        go_ret
        exact ⟨rfl, F'.bel⟩
      · have hqb : ((q : Int) != ((k : Int) - 1) / 224) = false := by have := HQ.out; simp; omega
        have hlq : ((k + 4 * (q + 1) : Nat) : Int) = (k : Int) + 4 * (((k : Int) - 1) / 224 + 1) := by have := HQ.out; omega
        clear hq
        go_wp2_with fail
        refine Hchk.out.mono ?_
        rintro e w3 ⟨rfl, hb3⟩
        have k3 := kW.below hb3 kW.lt
        have y0 : w3.cell? ⟨w2.heap.size, 0, none⟩ = some (.int .i64 7) := k3.cell 0
        have y1 : w3.cell? ⟨w2.heap.size, 1, none⟩ = some (.slice DA k dc) := k3.cell 1
        have y2 : w3.cell? ⟨w2.heap.size, 2, none⟩ = some (.slice CA q cc) := k3.cell 2
        have y3 : w3.cell? ⟨w2.heap.size, 3, none⟩ = some (.int .i64 5) := k3.cell 3
        have hr3 := hrW.below (hb3.mono hbW.size)
        have hs3 := hb3.size
        have hsW := hbW.size
        have hrs : RecsRd (w3.alloc (.cells #[.int .i64 7, .slice DA k dc, .slice CA q cc, .int .i64 5] 30)) (w3.heap.size + 1) (some ⟨w3.heap.size, 0, none⟩) 1 [⟨7, dl, cutsK q, 5⟩] := by
          refine recs_one (B := w2.heap.size) (D := DA) (dc := dc) (C := CA) (cc := cc) ?_ (hr3.below ((Below.refl _ _).alloc (by omega) _)) (by omega)
          simp only [HDL.out, HCL.out]
          exact Bk.new _ _ _
        have hwr := write_any (c := 1) hrs (by simp) (by omega)
        rw [HWM.out] at hwr
        have Hwr := Lib.hid hwr
        clear x0 x1 x2 x3 e1 e2 hqb hwr
        go_wp2_with fail
        refine Hwr.out.mono ?_
        rintro e w4 ⟨bvv, rfl, ob, hb4⟩
        obtain ⟨WA, wc, rfl, hwc, _, rb⟩ := own_form ob
        clear y0 y1 y2 y3 ob Hwr
        have hrdA := read_any (c := wc) rb hwc (by rw [HLB.out]; omega) (Nat.le_refl _)
        rw [HRO.out] at hrdA
        have Hrd := Lib.hid hrdA
        clear hrdA
        go_wp2_with fail
        refine Hrd.out.mono ?_
        rintro e w5 ⟨l, S, rfl, ol, hm, _, hb5⟩
        obtain ⟨d0, c0, rfl⟩ := one_item hm
        have o1 : w5.ownsRow w4.heap.size 5 1 d0 k (dl.map bv) := by have := ol.data _ (List.mem_singleton_self _); simp only [HDL.out] at this; exact this
        have o2 : w5.ownsRow w4.heap.size 3 1 c0 q ((cutsK q).map iv) := by have := ol.cuts _ (List.mem_singleton_self _); simp only [HCL.out] at this; exact this
        obtain ⟨DL, dlc, rfl, _, _, _⟩ := own_form o1
        obtain ⟨CL, clc, rfl, _, _, _⟩ := own_form o2
        obtain ⟨g, lc, rfl⟩ : ∃ g lc, l = .slice (some ⟨g, 0, none⟩) 1 lc := by
          rcases ol.row.2 with ⟨_, h0⟩ | ⟨g, cap, _, rfl, _⟩
          · exact absurd h0 (by simp)
          · exact ⟨g, cap, rfl⟩
        have ha3 : Below w3.heap.size w3 (w3.alloc (.cells #[.int .i64 7, .slice DA k dc, .slice CA q cc, .int .i64 5] 30)) := (Below.refl _ _).alloc (Nat.le_refl _) _
        have hb35 : Below w3.heap.size w3 w5 := (ha3.trans (hb4.mono ha3.size)).trans (hb5.mono (Nat.le_trans ha3.size hb4.size))
        have hw5 : Below w.heap.size w w5 := (hwW.trans (hb3.mono hwW.size)).trans (hb35.mono (Nat.le_trans hwW.size hb3.size))
        have hs5 := hb35.size
        have hs4 := hb4.size
        have hsa := ha3.size
        have F0 : CF w g w2.heap.size lc DL CL DA CA dlc clc dc cc k q dl w5 := by
          refine ⟨hw5, ⟨own_mono ol.row (by have := hwW.size; omega), fun x hx => own_mono (ol.data x hx) (by have := hwW.size; omega), fun x hx => own_mono (ol.cuts x hx) (by have := hwW.size; omega), ol.dapart, ol.capart⟩,
            k3.below hb35 k3.lt, ?_, ?_, HDL.out, hdc, hcc, by omega, by omega⟩
          · exact ((rdW.below (hb3.mono hbW.size)).below (hb35.mono (by omega))).mono (by omega)
          · exact ((rcW.below (hb3.mono hbW.size)).below (hb35.mono (by omega))).mono (by omega)
        generalize hLB : (putM ⟨7, dl, cutsK q, 5⟩).length = LB at *
        have hlb : (((LB : Nat) : Int) == IntKind.i64.wrap ((k : Int) + IntKind.i64.wrap (4 * IntKind.i64.wrap (((k : Int) - 1) / 224 + 1)))) = true := by
          have := HLB.out
          have hd0 : 0 ≤ ((k : Int) - 1) / 224 ∧ ((k : Int) - 1) / 224 ≤ 3000 := by omega
          rw [IntWalk.i64_in (((k : Int) - 1) / 224 + 1) (by omega), IntWalk.i64_in (4 * _) (by omega), IntWalk.i64_in _ (by omega), this, ← hlq]
          simp
        have w0 : IntKind.i64.wrap 0 = 0 := by decide
        clear hLB hlq ol o1 o2 hw5 hb35 hb4 hb5 ha3 hs5 hs4 hsa k3 hr3 hrs hbW hb3 hwW kW hrW rb rdW rcW rrW hm hs3 hsW
        go_wp2_with fail
        go_region_held3 (fun W => CF w g w2.heap.size lc DL CL DA CA dlc clc dc cc k q dl W ∧ W.cell? ⟨g, 0, none⟩ = some (.int .i64 7) ∧ W.cell? ⟨g, 1, none⟩ = some (.slice DL k dlc) ∧ W.cell? ⟨g, 2, none⟩ = some (.slice CL q clc) ∧ W.cell? ⟨g, 3, none⟩ = some (.int .i64 0) ∧ W.cell? ⟨w2.heap.size, 0, none⟩ = some (.int .i64 7) ∧ W.cell? ⟨w2.heap.size, 1, none⟩ = some (.slice DA k dc) ∧ W.cell? ⟨w2.heap.size, 2, none⟩ = some (.slice CA q cc) ∧ W.cell? ⟨w2.heap.size, 3, none⟩ = some (.int .i64 5))
          (first | exact F0.drew.s | exact CF.s (by assumption))
          ((go_at_call 20; (have F := (by assumption : CF w g w2.heap.size lc DL CL DA CA dlc clc dc cc k q dl _ ∧ _).1); (with_reducible refine (CF.same F).mono ?_); rintro e w' ⟨rfl, hb⟩; have F' := F.below hb))
        go_wp2
        go_ret
        exact ⟨rfl, F'.bel⟩
end Go.Proofs.Ytpjimppfgmemeaa
