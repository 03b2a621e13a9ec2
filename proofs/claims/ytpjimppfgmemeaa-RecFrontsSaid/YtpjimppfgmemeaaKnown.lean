/- cashbooklaw1.known by its contract: it returns true, and nothing that was there has turned. No condition. -/
import Derived.Test.YtpjimppfgmemeaaRead
import Derived.Test.YtpjimppfgmemeaaSettle
namespace Go.Proofs.Ytpjimppfgmemeaa
open Go.RowKit

def kb : List UInt8 := [1, 2, 2, 0, 7, 8, 0x3C, 0, 1, 0, 9, 5, 0, 0, 0]
def kr0 : RecM := ⟨0x201, [7, 8, 9], [2], 0⟩
def kr1 : RecM := ⟨5, [], [], 11⟩

theorem k_read : readAll kb = ([kr0, kr1], 0, 0) := by rfl
theorem k_write : writeM [kr0, kr1] = (kb, 0) := by rfl
theorem k_read2 : readAll (kb.take 9) = ([], 6, 5) := by rfl
theorem k_read3 : readAll [0x3C, 0, 0, 0] = ([], 0, 6) := by rfl
theorem k_read4 : readAll [1, 0, 0xE1, 0] = ([], 0, 4) := by rfl
theorem k_read5 : readAll [1, 0, 0, 0, 0x3C, 0, 1, 0, 5] = ([], 4, 2) := by rfl

theorem kb_map : kb.map bv = [.int .u8 1, .int .u8 2, .int .u8 2, .int .u8 0, .int .u8 7, .int .u8 8, .int .u8 60, .int .u8 0, .int .u8 1, .int .u8 0, .int .u8 9, .int .u8 5, .int .u8 0, .int .u8 0, .int .u8 0] := by rfl

/-- The two records that are read first, as they lie. -/
structure KI (w : World) (g cap : Nat) (D0 C0 D1 C1 : Option Addr) (dc0 cc0 dc1 cc1 : Nat) (W : World) : Prop where
  bel : Below w.heap.size w W
  b : Rd W W.heap.size 1 (some ⟨w.heap.size, 0, none⟩) 15 (kb.map bv)
  row : RecsOwn W w.heap.size (.slice (some ⟨g, 0, none⟩) 2 cap) [⟨kr0, .slice D0 3 dc0, .slice C0 1 cc0⟩, ⟨kr1, .slice D1 0 dc1, .slice C1 0 cc1⟩]

section
variable {w : World} {g cap : Nat} {D0 C0 D1 C1 : Option Addr} {dc0 cc0 dc1 cc1 : Nat} {W W' : World}
theorem KI.below (h : KI w g cap D0 C0 D1 C1 dc0 cc0 dc1 cc1 W) (hb : Below W.heap.size W W') : KI w g cap D0 C0 D1 C1 dc0 cc0 dc1 cc1 W' :=
  ⟨h.bel.trans (hb.mono h.bel.size), (h.b.below hb).mono hb.size, h.row.below hb⟩
end

theorem own_below {w w' : World} {base : Nat} {e : TypeId} {k : Nat} {v : Value} {n : Nat} {xs : List Value} (h : w.ownsRow base e k v n xs) (hb : Below w.heap.size w w') : w'.ownsRow base e k v n xs :=
  Keep.own (S := fun i => w.heap.size ≤ i) (Keep.of_below hb fun i _ h => h) h fun i hi hh => by have := (h.lt i hi).2; omega

theorem kr0_small : Fit kr0.type ∧ kr0.data.length ≤ 1000000 ∧ kr0.cuts.length ≤ 1000000 := ⟨⟨by decide, by decide⟩, by decide, by decide⟩
theorem kr1_small : Fit kr1.type ∧ kr1.data.length ≤ 1000000 ∧ kr1.cuts.length ≤ 1000000 := ⟨⟨by decide, by decide⟩, by decide, by decide⟩

theorem ki_of {w w1 : World} {l : Value} {S : List Item} (hm : S.map (·.r) = [kr0, kr1]) (ho : RecsOwn w1 (w.heap.size + 1) l S) (hb : Below (w.heap.size + 1) (w.alloc (.cells (kb.map bv).toArray 5)) w1) :
    ∃ g cap D0 C0 D1 C1 dc0 cc0 dc1 cc1, l = .slice (some ⟨g, 0, none⟩) 2 cap ∧ KI w g cap D0 C0 D1 C1 dc0 cc0 dc1 cc1 w1 := by
  match S, hm with
  | [⟨r0, d0, c0⟩, ⟨r1, d1, c1⟩], hm =>
    simp only [List.map_cons, List.map_nil, List.cons.injEq, and_true] at hm
    obtain ⟨rfl, rfl⟩ := hm
    have q1 : w1.ownsRow (w.heap.size + 1) 5 1 d0 3 (kr0.data.map bv) := ho.data ⟨kr0, d0, c0⟩ (by simp)
    have q2 : w1.ownsRow (w.heap.size + 1) 3 1 c0 1 (kr0.cuts.map iv) := ho.cuts ⟨kr0, d0, c0⟩ (by simp)
    have q3 : w1.ownsRow (w.heap.size + 1) 5 1 d1 0 (kr1.data.map bv) := ho.data ⟨kr1, d1, c1⟩ (by simp)
    have q4 : w1.ownsRow (w.heap.size + 1) 3 1 c1 0 (kr1.cuts.map iv) := ho.cuts ⟨kr1, d1, c1⟩ (by simp)
    obtain ⟨D0, dc0, rfl, _, _, _⟩ := own_form q1
    obtain ⟨C0, cc0, rfl, _, _, _⟩ := own_form q2
    obtain ⟨D1, dc1, rfl, _, _, _⟩ := own_form q3
    obtain ⟨C1, cc1, rfl, _, _, _⟩ := own_form q4
    rcases ho.row.2 with ⟨_, h0⟩ | ⟨g, cap, cur, rfl, _⟩
    · exact absurd h0 (by simp)
    have hsz := hb.size
    simp at hsz
    refine ⟨g, cap, D0, C0, D1, C1, dc0, cc0, dc1, cc1, rfl, ((Below.refl _ _).alloc (Nat.le_refl _) _).trans (hb.mono (by omega)), ?_, ?_⟩
    · exact ((Rd.fresh w 5 1 15 (kb.map bv) rfl).below hb).mono (by omega)
    · exact ⟨own_mono ho.row (by omega), fun x hx => own_mono (ho.data x hx) (by omega), fun x hx => own_mono (ho.cuts x hx) (by omega), ho.dapart, ho.capart⟩

/-- Five hundred noughts. -/
def kd500 : List UInt8 := List.replicate 500 0
theorem kd500_len : kd500.length = 500 := List.length_replicate ..
def z500 : Array Value := (kd500.map bv).toArray

theorem made_one (x : Value) (n : Nat) : madeCells #[x] (n * 1) = (List.replicate n x).toArray := by
  refine Array.toList_inj.1 (List.ext_getElem? fun i => ?_)
  simp only [madeCells, Nat.mul_one, List.size_toArray, List.length_cons, List.length_nil, Nat.zero_add, Nat.mod_one, Array.toList_map, List.getElem?_map]
  simp only [Array.toList_range, List.getElem?_replicate]
  by_cases h : i < n <;> simp [h]

theorem run_make500 (W : World) : (Instr.makeSlice 24 (.int .i64 500) (.int .i64 500)).run Try.prog W = .ok (.slice (some ⟨W.heap.size, 0, none⟩) 500 500) (W.alloc (.cells z500 5)) := by
  obtain ⟨i, hi, h0, h1, h2⟩ := bytesRow.info
  have h := run_make (P := Try.prog) W 24 5 i _ bytesRow.under hi h0 .i64 .i64 500 500 (by omega) (by omega) (by rw [h2]; omega) (by omega)
  rw [h, h1]
  have e : madeCells (Value.int .u8 0).cells (Int.toNat 500 * 1) = z500 := by
    show madeCells #[Value.int .u8 0] (500 * 1) = _
    rw [made_one, z500, kd500, List.map_replicate]
    rfl
  rw [e]
  rfl

theorem kcut_any {W : World} {B : Nat} {a : Addr} (h : Rd W B 1 (some a) 500 (kd500.map bv)) (hB : B ≤ W.heap.size) :
    Calls Try.prog 13 #[.agg #[.int .i64 1, .slice (some a) 500 500, .slice none 0 0, .int .i64 0]] W fun e w' => ∃ DA dc CA cc, e = .returned (.agg #[.int .i64 1, .slice DA 500 dc, .slice CA 2 cc, .int .i64 0]) ∧
      Rd w' w'.heap.size 1 DA 500 (kd500.map bv) ∧ Rd w' w'.heap.size 1 CA 2 (([224, 448] : List Int).map iv) ∧ 500 ≤ dc ∧ 2 ≤ cc ∧ Below W.heap.size W w' := by
  have hr : RecRd W B ⟨1, kd500, [], 0⟩ (some a) 500 none 0 := ⟨by rw [kd500_len]; exact h, Rd.nil _ _ _ _, by simp [kd500_len], by simp, ⟨by decide, by decide⟩⟩
  have hc := cut_any hr hB (by simp [kd500_len])
  simp only [kd500_len, List.length_nil] at hc
  refine hc.mono ?_
  rintro e w' ⟨dv, cv, rfl, od, oc, hb⟩
  have e2 : cutsK 2 = [224, 448] := by rfl
  rw [show (500 - 1) / 224 = 2 from rfl, e2] at oc
  obtain ⟨DA, dc, rfl, h1, _, h2⟩ := own_form od
  obtain ⟨CA, cc, rfl, h3, _, h4⟩ := own_form oc
  exact ⟨DA, dc, CA, cc, rfl, h2, h4, h1, h3, hb⟩

theorem rec_rd {w : World} {g cap : Nat} {D0 C0 D1 C1 : Option Addr} {dc0 cc0 dc1 cc1 : Nat} {W : World} (h : KI w g cap D0 C0 D1 C1 dc0 cc0 dc1 cc1 W) :
    RecRd W W.heap.size kr0 D0 dc0 C0 cc0 ∧ RecRd W W.heap.size kr1 D1 dc1 C1 cc1 := by
  obtain ⟨_, _, hv, h1, _, r1⟩ := own_form (h.row.data ⟨kr0, .slice D0 3 dc0, .slice C0 1 cc0⟩ (by simp))
  injection hv with hA _ hc
  subst hA hc
  obtain ⟨_, _, hv, h2, _, r2⟩ := own_form (h.row.cuts ⟨kr0, .slice D0 3 dc0, .slice C0 1 cc0⟩ (by simp))
  injection hv with hA _ hc
  subst hA hc
  obtain ⟨_, _, hv, h3, _, r3⟩ := own_form (h.row.data ⟨kr1, .slice D1 0 dc1, .slice C1 0 cc1⟩ (by simp))
  injection hv with hA _ hc
  subst hA hc
  obtain ⟨_, _, hv, h4, _, r4⟩ := own_form (h.row.cuts ⟨kr1, .slice D1 0 dc1, .slice C1 0 cc1⟩ (by simp))
  injection hv with hA _ hc
  subst hA hc
  exact ⟨⟨r1, r2, ⟨h1, by decide⟩, ⟨h2, by decide⟩, kr0_small.1⟩, ⟨r3, r4, ⟨h3, by decide⟩, ⟨h4, by decide⟩, kr1_small.1⟩⟩

/-- All that the last statement reads. -/
structure KF (w : World) (g gb cap : Nat) (D0 D1 DA WA C1 : Option Addr) (a0 a1 : Addr) (dc0 cc0 dc1 cc1 dc cc wc : Nat) (W : World) : Prop where
  k : KI w g cap D0 (some a0) D1 C1 dc0 cc0 dc1 cc1 W
  wv : W.ownsRow w.heap.size 5 1 (.slice WA 15 wc) 15 (kb.map bv)
  box : Bk W gb 30 #[.int .i64 1, .slice DA 500 dc, .slice (some a1) 2 cc, .int .i64 0]
  da : Rd W W.heap.size 1 DA 500 (kd500.map bv)
  ca : Rd W W.heap.size 1 (some a1) 2 (([224, 448] : List Int).map iv)
  hdc : 500 ≤ dc
  hcc : 2 ≤ cc

section
variable {w : World} {g gb cap : Nat} {D0 D1 DA WA C1 : Option Addr} {a0 a1 : Addr} {dc0 cc0 dc1 cc1 dc cc wc : Nat} {W W' : World}

theorem KF.below (h : KF w g gb cap D0 D1 DA WA C1 a0 a1 dc0 cc0 dc1 cc1 dc cc wc W) (hb : Below W.heap.size W W') : KF w g gb cap D0 D1 DA WA C1 a0 a1 dc0 cc0 dc1 cc1 dc cc wc W' :=
  ⟨h.k.below hb, own_below h.wv hb, h.box.below hb h.box.lt, (h.da.below hb).mono hb.size, (h.ca.below hb).mono hb.size, h.hdc, h.hcc⟩
theorem KF.drew (h : KF w g gb cap D0 D1 DA WA C1 a0 a1 dc0 cc0 dc1 cc1 dc cc wc W) : KF w g gb cap D0 D1 DA WA C1 a0 a1 dc0 cc0 dc1 cc1 dc cc wc W.drew := h.below (Below.refl _ _).drew
theorem KF.alloc (h : KF w g gb cap D0 D1 DA WA C1 a0 a1 dc0 cc0 dc1 cc1 dc cc wc W) (o : Obj) : KF w g gb cap D0 D1 DA WA C1 a0 a1 dc0 cc0 dc1 cc1 dc cc wc (W.alloc o) := h.below ((Below.refl _ _).alloc (Nat.le_refl _) _)

theorem KF.s (h : KF w g gb cap D0 D1 DA WA C1 a0 a1 dc0 cc0 dc1 cc1 dc cc wc W) : KF w g gb cap D0 D1 DA WA C1 a0 a1 dc0 cc0 dc1 cc1 dc cc wc W ∧ W.cell? ⟨g, 0, none⟩ = some (.int .i64 513) ∧ W.cell? ⟨g, 1, none⟩ = some (.slice D0 3 dc0) ∧ W.cell? ⟨g, 2, none⟩ = some (.slice (some a0) 1 cc0) ∧ W.cell? ⟨g, 3, none⟩ = some (.int .i64 0) ∧
      W.cell? ⟨g, 4, none⟩ = some (.int .i64 5) ∧ W.cell? ⟨g, 5, none⟩ = some (.slice D1 0 dc1) ∧ W.cell? ⟨g, 6, none⟩ = some (.slice C1 0 cc1) ∧ W.cell? ⟨g, 7, none⟩ = some (.int .i64 11) ∧
      W.cell? a0 = some (.int .i64 2) ∧ W.cell? ⟨gb, 0, none⟩ = some (.int .i64 1) ∧ W.cell? ⟨gb, 1, none⟩ = some (.slice DA 500 dc) ∧ W.cell? ⟨gb, 2, none⟩ = some (.slice (some a1) 2 cc) ∧ W.cell? ⟨gb, 3, none⟩ = some (.int .i64 0) ∧
      W.cell? a1 = some (.int .i64 224) ∧ W.cell? ⟨a1.block, a1.off + 1, none⟩ = some (.int .i64 448) ∧
      (convert 24 9 (.slice D0 3 dc0)).run Try.prog W = .ok (.string ⟨#[7, 8, 9]⟩) W ∧ (convert 24 9 (.slice WA 15 wc)).run Try.prog W = .ok (.string (strOf kb)) W ∧
      (convert 24 9 (.slice (some ⟨w.heap.size, 0, none⟩) 15 15)).run Try.prog W = .ok (.string (strOf kb)) W := by
  have hrow := h.k.row.row.cells (g := g) rfl
  have e0 := hrow 0 _ rfl
  have e1 := hrow 1 _ rfl
  have e2 := hrow 2 _ rfl
  have e3 := hrow 3 _ rfl
  have e4 := hrow 4 _ rfl
  have e5 := hrow 5 _ rfl
  have e6 := hrow 6 _ rfl
  have e7 := hrow 7 _ rfl
  obtain ⟨_, _, hv, _, _, r0⟩ := own_form (h.k.row.cuts ⟨kr0, .slice D0 3 dc0, .slice (some a0) 1 cc0⟩ (by simp))
  injection hv with hA _ _
  subst hA
  obtain ⟨b0, hb0, _, q0⟩ := r0.at_ Nat.zero_lt_one
  injection hb0 with hb0
  subst hb0
  obtain ⟨b1, hb1, _, q1⟩ := h.ca.at_ (by decide)
  injection hb1 with hb1
  subst hb1
  obtain ⟨_, _, hv, _, _, r1⟩ := own_form (h.k.row.data ⟨kr0, .slice D0 3 dc0, .slice (some a0) 1 cc0⟩ (by simp))
  injection hv with hA _ hc
  subst hA hc
  obtain ⟨_, _, hv, _, _, r2⟩ := own_form h.wv
  injection hv with hA _ hc
  subst hA hc
  exact ⟨h, e0, e1, e2, e3, e4, e5, e6, e7, q0 0 _ rfl, h.box.cell 0, h.box.cell 1, h.box.cell 2, h.box.cell 3, q1 0 _ rfl, q1 1 _ rfl, run_str (l := [7, 8, 9]) r1, run_str r2, run_str h.k.b⟩
end

theorem ksame00 {w : World} {g gb cap : Nat} {D0 D1 DA WA C1 : Option Addr} {a0 a1 : Addr} {dc0 cc0 dc1 cc1 dc cc wc : Nat} {W : World} (h : KF w g gb cap D0 D1 DA WA C1 a0 a1 dc0 cc0 dc1 cc1 dc cc wc W) :
    Calls Try.prog 20 #[.agg #[.int .i64 513, .slice D0 3 dc0, .slice (some a0) 1 cc0, .int .i64 0], .agg #[.int .i64 513, .slice D0 3 dc0, .slice (some a0) 1 cc0, .int .i64 0]] W fun e w' => e = .returned (.bool true) ∧ Below W.heap.size W w' := by
  obtain ⟨r0, _⟩ := rec_rd h.k
  exact same_any r0 r0 (Nat.le_refl _)

theorem ksame01 {w : World} {g gb cap : Nat} {D0 D1 DA WA C1 : Option Addr} {a0 a1 : Addr} {dc0 cc0 dc1 cc1 dc cc wc : Nat} {W : World} (h : KF w g gb cap D0 D1 DA WA C1 a0 a1 dc0 cc0 dc1 cc1 dc cc wc W) :
    Calls Try.prog 20 #[.agg #[.int .i64 513, .slice D0 3 dc0, .slice (some a0) 1 cc0, .int .i64 0], .agg #[.int .i64 5, .slice D1 0 dc1, .slice C1 0 cc1, .int .i64 11]] W fun e w' => e = .returned (.bool false) ∧ Below W.heap.size W w' := by
  obtain ⟨r0, r1⟩ := rec_rd h.k
  exact same_any r0 r1 (Nat.le_refl _)

theorem kcheck1 (W : World) : Calls Try.prog 8 #[.agg #[.int .i64 60, .slice none 0 0, .slice none 0 0, .int .i64 0]] W fun e w' => e = .returned (.int .i64 1) ∧ Below W.heap.size W w' :=
  check_any (B := W.heap.size) (r := ⟨60, [], [], 0⟩) ⟨Rd.nil _ _ _ _, Rd.nil _ _ _ _, by simp, by simp, ⟨by decide, by decide⟩⟩ (Nat.le_refl _)

theorem kcheck6 (W : World) {b1 b2 : Nat} (h1 : b1 < W.heap.size) (h2 : b2 < W.heap.size) (c1 : W.cell? ⟨b1, 0, none⟩ = some (.int .u8 1)) (c2 : W.cell? ⟨b2, 0, none⟩ = some (.int .i64 1)) :
    Calls Try.prog 8 #[.agg #[.int .i64 0, .slice (some ⟨b1, 0, none⟩) 1 1, .slice (some ⟨b2, 0, none⟩) 1 1, .int .i64 0]] W fun e w' => e = .returned (.int .i64 6) ∧ Below W.heap.size W w' := by
  refine check_any (B := W.heap.size) (r := ⟨0, [1], [1], 0⟩) ⟨⟨rfl, fun _ => ⟨_, rfl, h1, ?_⟩⟩, ⟨rfl, fun _ => ⟨_, rfl, h2, ?_⟩⟩, by simp, by simp, ⟨by decide, by decide⟩⟩ (Nat.le_refl _)
  · intro j u hu
    match j, hu with
    | 0, hu => simp at hu; subst hu; exact c1
  · intro j u hu
    match j, hu with
    | 0, hu => simp at hu; subst hu; exact c2

theorem kcheck6a (W : World) : Calls Try.prog 8 #[.agg #[.int .i64 0, .slice (some ⟨W.heap.size, 0, none⟩) 1 1, .slice (some ⟨W.heap.size + 1, 0, none⟩) 1 1, .int .i64 0]]
    ((W.alloc (.cells #[.int .u8 1] 5)).alloc (.cells #[.int .i64 1] 3)) fun e w' => e = .returned (.int .i64 6) ∧ Below ((W.alloc (.cells #[.int .u8 1] 5)).alloc (.cells #[.int .i64 1] 3)).heap.size ((W.alloc (.cells #[.int .u8 1] 5)).alloc (.cells #[.int .i64 1] 3)) w' := by
  have e : (W.alloc (.cells #[.int .u8 1] 5)).heap.size = W.heap.size + 1 := by simp
  refine kcheck6 _ (by simp; omega) (by simp) (((Bk.new W 5 #[.int .u8 1]).alloc _).cell 0) ?_
  rw [← e]
  exact (Bk.new (W.alloc (.cells #[.int .u8 1] 5)) 3 #[.int .i64 1]).cell 0

theorem kcheck6b (W : World) : Calls Try.prog 8 #[.agg #[.int .i64 0, .slice (some ⟨W.heap.size + 1, 0, none⟩) 1 1, .slice (some ⟨W.heap.size, 0, none⟩) 1 1, .int .i64 0]]
    ((W.alloc (.cells #[.int .i64 1] 3)).alloc (.cells #[.int .u8 1] 5)) fun e w' => e = .returned (.int .i64 6) ∧ Below ((W.alloc (.cells #[.int .i64 1] 3)).alloc (.cells #[.int .u8 1] 5)).heap.size ((W.alloc (.cells #[.int .i64 1] 3)).alloc (.cells #[.int .u8 1] 5)) w' := by
  have e : (W.alloc (.cells #[.int .i64 1] 3)).heap.size = W.heap.size + 1 := by simp
  refine kcheck6 _ (by simp) (by simp; omega) ?_ (((Bk.new W 3 #[.int .i64 1]).alloc _).cell 0)
  rw [← e]
  exact (Bk.new (W.alloc (.cells #[.int .i64 1] 3)) 5 #[.int .u8 1]).cell 0

theorem k500_check : checkM ⟨1, kd500, [224, 448], 0⟩ = 0 := by
  refine good_checkM ⟨by decide, by decide, by decide, by simp [kd500_len], ?_, ?_⟩
  · simp only [kd500_len]; decide
  · simp only [kd500_len, shortB]; decide

theorem kcheck0 {w : World} {g gb cap : Nat} {D0 D1 DA WA C1 : Option Addr} {a0 a1 : Addr} {dc0 cc0 dc1 cc1 dc cc wc : Nat} {W : World} (h : KF w g gb cap D0 D1 DA WA C1 a0 a1 dc0 cc0 dc1 cc1 dc cc wc W) :
    Calls Try.prog 8 #[.agg #[.int .i64 1, .slice DA 500 dc, .slice (some a1) 2 cc, .int .i64 0]] W fun e w' => e = .returned (.int .i64 0) ∧ Below W.heap.size W w' := by
  have hr : RecRd W W.heap.size ⟨1, kd500, [224, 448], 0⟩ DA dc (some a1) cc := ⟨by rw [kd500_len]; exact h.da, h.ca, ⟨by rw [kd500_len]; exact h.hdc, by rw [kd500_len]; omega⟩, ⟨h.hcc, by simp⟩, ⟨by decide, by decide⟩⟩
  have := check_any hr (Nat.le_refl _)
  rw [k500_check] at this
  simp only [kd500_len] at this
  exact this

/-- What is foretold of the last statement's slots: those that it finds, those that it writes. -/
def kl0 (w : World) (g gb cap : Nat) (WA : Option Addr) (wc : Nat) : List (Nat × (Value → World → Prop)) := [(1, Is (.slice (some ⟨w.heap.size, 0, none⟩) 15 15)), (2, Is (.slice (some ⟨g, 0, none⟩) 2 cap)), (5, Is (.slice WA 15 wc)), (6, Is (.int .i64 0)), (8, Is (.int .i64 6)), (9, Is (.int .i64 5)), (11, Is (.int .i64 0)), (12, Is (.int .i64 6)), (14, Is (.int .i64 0)), (15, Is (.int .i64 4)), (17, Is (.int .i64 4)), (18, Is (.int .i64 2)), (19, Is (.pointer (some ⟨gb, 0, none⟩)))]
def kl1 (w : World) (g gb cap : Nat) (D0 D1 DA WA C1 : Option Addr) (a0 a1 : Addr) (dc0 cc0 dc1 cc1 dc cc wc : Nat) : List (Nat × (Value → World → Prop)) := [(83, Is (.slice (some ⟨g, 0, none⟩) 2 cap)), (84, Is (.pointer (some ⟨g, 0, none⟩))), (85, Is (.pointer (some ⟨g, 0, none⟩))), (86, Is (.int .i64 513)), (87, Is (.bool true)), (88, Is (.bool true)), (89, Is (.slice (some ⟨g, 0, none⟩) 2 cap)), (90, Is (.pointer (some ⟨g, 0, none⟩))), (91, Is (.pointer (some ⟨g, 1, none⟩))), (92, Is (.slice D0 3 dc0)), (93, Is (.string ⟨#[7, 8, 9]⟩)), (94, Is (.bool true)), (95, Is (.bool true)), (96, Is (.bool true)), (97, Is (.slice (some ⟨g, 0, none⟩) 2 cap)), (98, Is (.pointer (some ⟨g, 0, none⟩))), (99, Is (.pointer (some ⟨g, 2, none⟩))), (100, Is (.slice (some a0) 1 cc0)), (101, Is (.pointer (some a0))), (102, Is (.int .i64 2)), (103, Is (.bool true)), (104, Is (.bool true)), (105, Is (.bool true)), (106, Is (.slice (some ⟨g, 0, none⟩) 2 cap)), (107, Is (.pointer (some ⟨g, 4, none⟩))), (108, Is (.pointer (some ⟨g, 7, none⟩))), (109, Is (.int .i64 11)), (110, Is (.bool true)), (111, Is (.bool true)), (112, Is (.bool true)), (113, Is (.int .i64 0)), (114, Is (.bool true)), (115, Is (.bool true)), (116, Is (.bool true)), (117, Is (.slice WA 15 wc)), (118, Is (.string (strOf kb))), (119, Is (.slice (some ⟨w.heap.size, 0, none⟩) 15 15)), (120, Is (.string (strOf kb))), (121, Is (.bool true)), (122, Is (.bool true)), (123, Is (.bool true)), (124, Is (.int .i64 6)), (125, Is (.bool true)), (126, Is (.bool true)), (127, Is (.bool true)), (128, Is (.int .i64 5)), (129, Is (.bool true)), (130, Is (.bool true)), (131, Is (.bool true)), (132, Is (.int .i64 0)), (133, Is (.bool true)), (134, Is (.bool true)), (135, Is (.bool true)), (136, Is (.int .i64 6)), (137, Is (.bool true)), (138, Is (.bool true)), (139, Is (.bool true)), (140, Is (.int .i64 0)), (141, Is (.bool true)), (142, Is (.bool true)), (143, Is (.bool true)), (144, Is (.int .i64 4)), (145, Is (.bool true)), (146, Is (.bool true)), (147, Is (.bool true)), (148, Is (.int .i64 4)), (149, Is (.bool true)), (150, Is (.bool true)), (151, Is (.bool true)), (152, Is (.int .i64 2)), (153, Is (.bool true)), (154, Is (.bool true)), (155, Is (.bool true)), (156, Is (.pointer (some ⟨gb, 2, none⟩))), (157, Is (.slice (some a1) 2 cc)), (158, Is (.pointer (some a1))), (159, Is (.int .i64 224)), (160, Is (.bool true)), (161, Is (.bool true)), (162, Is (.bool true)), (163, Is (.pointer (some ⟨gb, 2, none⟩))), (164, Is (.slice (some a1) 2 cc)), (165, Is (.pointer (some ⟨a1.block, a1.off + 1, none⟩))), (166, Is (.int .i64 448)), (167, Is (.bool true)), (168, Is (.bool true)), (169, Is (.bool true)), (170, Is (.slice (some ⟨g, 0, none⟩) 2 cap)), (171, Is (.pointer (some ⟨g, 0, none⟩))), (172, Is (.agg #[.int .i64 513, .slice D0 3 dc0, .slice (some a0) 1 cc0, .int .i64 0])), (173, Is (.slice (some ⟨g, 0, none⟩) 2 cap)), (174, Is (.pointer (some ⟨g, 0, none⟩))), (175, Is (.agg #[.int .i64 513, .slice D0 3 dc0, .slice (some a0) 1 cc0, .int .i64 0])), (176, Is (.bool true)), (177, Is (.bool true)), (178, Is (.bool true)), (179, Is (.slice (some ⟨g, 0, none⟩) 2 cap)), (180, Is (.pointer (some ⟨g, 0, none⟩))), (181, Is (.agg #[.int .i64 513, .slice D0 3 dc0, .slice (some a0) 1 cc0, .int .i64 0])), (182, Is (.slice (some ⟨g, 0, none⟩) 2 cap)), (183, Is (.pointer (some ⟨g, 4, none⟩))), (184, Is (.agg #[.int .i64 5, .slice D1 0 dc1, .slice C1 0 cc1, .int .i64 11])), (185, Is (.bool false)), (186, Is (.bool true)), (187, Is (.bool true)), (188, Is (.bool true)), (189, Is (.agg #[.int .i64 60, .slice none 0 0, .slice none 0 0, .int .i64 0])), (190, Is (.int .i64 1)), (191, Is (.bool true)), (192, Is (.bool true)), (193, Is (.bool true)), (194, (fun v w => ∃ g' : Nat, v = .slice (some ⟨g', 0, none⟩) 1 1 ∧ Bk w g' 5 #[.int .u8 1])), (195, (fun v w => ∃ g' : Nat, v = .slice (some ⟨g', 0, none⟩) 1 1 ∧ Bk w g' 3 #[.int .i64 1])), (196, (fun v w => ∃ g1 g2 : Nat, v = .agg #[.int .i64 0, .slice (some ⟨g1, 0, none⟩) 1 1, .slice (some ⟨g2, 0, none⟩) 1 1, .int .i64 0] ∧ Bk w g1 5 #[.int .u8 1] ∧ Bk w g2 3 #[.int .i64 1])), (197, Is (.int .i64 6)), (198, Is (.bool true)), (199, Is (.bool true)), (200, Is (.bool true)), (201, Is (.agg #[.int .i64 1, .slice DA 500 dc, .slice (some a1) 2 cc, .int .i64 0])), (202, Is (.int .i64 0)), (203, Is (.bool true)), (204, Is (.bool true)), (0, Is (.bool true))]
def kk : List (List Tmp × Option (Tmp × Bool)) := [([2], none), ([83], none), ([84], none), ([85], none), ([86], none), ([87], none), ([2, 88], some (88, true)), ([89, 88], some (88, true)), ([90, 88], some (88, true)), ([91, 88], some (88, true)), ([92, 88], some (88, true)), ([93, 88], some (88, true)), ([88, 94], none), ([95], none), ([2, 96], some (96, true)), ([97, 96], some (96, true)), ([98, 96], some (96, true)), ([99, 96], some (96, true)), ([100, 96], some (96, true)), ([101, 96], some (96, true)), ([102, 96], some (96, true)), ([96, 103], none), ([104], none), ([2, 105], some (105, true)), ([106, 105], some (105, true)), ([107, 105], some (105, true)), ([108, 105], some (105, true)), ([109, 105], some (105, true)), ([105, 110], none), ([111], none), ([6, 112], some (112, true)), ([113, 112], some (112, true)), ([112, 114], none), ([115], none), ([5, 116], some (116, true)), ([117, 116], some (116, true)), ([1, 116], some (116, true)), ([119, 116], some (116, true)), ([118, 120, 116], some (116, true)), ([116, 121], none), ([122], none), ([8, 123], some (123, true)), ([124, 123], some (123, true)), ([123, 125], none), ([126], none), ([9, 127], some (127, true)), ([128, 127], some (127, true)), ([127, 129], none), ([130], none), ([11, 131], some (131, true)), ([132, 131], some (131, true)), ([131, 133], none), ([134], none), ([12, 135], some (135, true)), ([136, 135], some (135, true)), ([135, 137], none), ([138], none), ([14, 139], some (139, true)), ([140, 139], some (139, true)), ([139, 141], none), ([142], none), ([15, 143], some (143, true)), ([144, 143], some (143, true)), ([143, 145], none), ([146], none), ([17, 147], some (147, true)), ([148, 147], some (147, true)), ([147, 149], none), ([150], none), ([18, 151], some (151, true)), ([152, 151], some (151, true)), ([151, 153], none), ([154], none), ([19, 155], some (155, true)), ([156, 155], some (155, true)), ([157, 155], some (155, true)), ([158, 155], some (155, true)), ([159, 155], some (155, true)), ([155, 160], none), ([161], none), ([19, 162], some (162, true)), ([163, 162], some (162, true)), ([164, 162], some (162, true)), ([165, 162], some (162, true)), ([166, 162], some (162, true)), ([162, 167], none), ([168], none), ([2, 169], some (169, true)), ([170, 169], some (169, true)), ([171, 169], some (169, true)), ([2, 169], some (169, true)), ([173, 169], some (169, true)), ([174, 169], some (169, true)), ([172, 175, 169], some (169, true)), ([169, 176], none), ([177], none), ([2, 178], some (178, true)), ([179, 178], some (178, true)), ([180, 178], some (178, true)), ([2, 178], some (178, true)), ([182, 178], some (178, true)), ([183, 178], some (178, true)), ([181, 184, 178], some (178, true)), ([185, 178], some (178, true)), ([178, 186], none), ([187], none), ([188], some (188, true)), ([189, 188], some (188, true)), ([190, 188], some (188, true)), ([188, 191], none), ([192], none), ([193], some (193, true)), ([193], some (193, true)), ([194, 195, 193], some (193, true)), ([196, 193], some (193, true)), ([197, 193], some (193, true)), ([193, 198], none), ([199], none), ([19, 200], some (200, true)), ([201, 200], some (200, true)), ([202, 200], some (200, true)), ([200, 203], none), ([204], none)]

def EB (w w' : World) : Prop := Below w.heap.size w w'
theorem stab194 : Stable EB (fun v w => ∃ g' : Nat, v = .slice (some ⟨g', 0, none⟩) 1 1 ∧ Bk w g' 5 #[.int .u8 1]) := fun _ _ _ hE h => by
  obtain ⟨g, e, k⟩ := h
  exact ⟨g, e, k.below hE k.lt⟩
theorem stab195 : Stable EB (fun v w => ∃ g' : Nat, v = .slice (some ⟨g', 0, none⟩) 1 1 ∧ Bk w g' 3 #[.int .i64 1]) := fun _ _ _ hE h => by
  obtain ⟨g, e, k⟩ := h
  exact ⟨g, e, k.below hE k.lt⟩
theorem stab196 : Stable EB (fun v w => ∃ g1 g2 : Nat, v = .agg #[.int .i64 0, .slice (some ⟨g1, 0, none⟩) 1 1, .slice (some ⟨g2, 0, none⟩) 1 1, .int .i64 0] ∧ Bk w g1 5 #[.int .u8 1] ∧ Bk w g2 3 #[.int .i64 1]) := fun _ _ _ hE h => by
  obtain ⟨g1, g2, e, k1, k2⟩ := h
  exact ⟨g1, g2, e, k1.below hE k1.lt, k2.below hE k2.lt⟩

theorem kstab (w : World) (g gb cap : Nat) (D0 D1 DA WA C1 : Option Addr) (a0 a1 : Addr) (dc0 cc0 dc1 cc1 dc cc wc : Nat) : StableAll EB (kl0 w g gb cap WA wc ++ kl1 w g gb cap D0 D1 DA WA C1 a0 a1 dc0 cc0 dc1 cc1 dc cc wc) :=
  ⟨stable_is _ _, stable_is _ _, stable_is _ _, stable_is _ _, stable_is _ _, stable_is _ _, stable_is _ _, stable_is _ _, stable_is _ _, stable_is _ _, stable_is _ _, stable_is _ _, stable_is _ _, stable_is _ _, stable_is _ _, stable_is _ _, stable_is _ _, stable_is _ _, stable_is _ _, stable_is _ _, stable_is _ _, stable_is _ _, stable_is _ _, stable_is _ _, stable_is _ _, stable_is _ _, stable_is _ _, stable_is _ _, stable_is _ _, stable_is _ _, stable_is _ _, stable_is _ _, stable_is _ _, stable_is _ _, stable_is _ _, stable_is _ _, stable_is _ _, stable_is _ _, stable_is _ _, stable_is _ _, stable_is _ _, stable_is _ _, stable_is _ _, stable_is _ _, stable_is _ _, stable_is _ _, stable_is _ _, stable_is _ _, stable_is _ _, stable_is _ _, stable_is _ _, stable_is _ _, stable_is _ _, stable_is _ _, stable_is _ _, stable_is _ _, stable_is _ _, stable_is _ _, stable_is _ _, stable_is _ _, stable_is _ _, stable_is _ _, stable_is _ _, stable_is _ _, stable_is _ _, stable_is _ _, stable_is _ _, stable_is _ _, stable_is _ _, stable_is _ _, stable_is _ _, stable_is _ _, stable_is _ _, stable_is _ _, stable_is _ _, stable_is _ _, stable_is _ _, stable_is _ _, stable_is _ _, stable_is _ _, stable_is _ _, stable_is _ _, stable_is _ _, stable_is _ _, stable_is _ _, stable_is _ _, stable_is _ _, stable_is _ _, stable_is _ _, stable_is _ _, stable_is _ _, stable_is _ _, stable_is _ _, stable_is _ _, stable_is _ _, stable_is _ _, stable_is _ _, stable_is _ _, stable_is _ _, stable_is _ _, stable_is _ _, stable_is _ _, stable_is _ _, stable_is _ _, stable_is _ _, stable_is _ _, stable_is _ _, stable_is _ _, stable_is _ _, stable_is _ _, stable_is _ _, stable_is _ _, stable_is _ _, stable_is _ _, stable_is _ _, stable_is _ _, stable_is _ _, stable_is _ _, stable_is _ _, stable_is _ _, stable_is _ _, stable_is _ _, stable_is _ _, stable_is _ _, stab194, stab195, stab196, stable_is _ _, stable_is _ _, stable_is _ _, stable_is _ _, stable_is _ _, stable_is _ _, stable_is _ _, stable_is _ _, stable_is _ _, trivial⟩

set_option maxHeartbeats 8000000 in
set_option maxRecDepth 100000 in
theorem known_any (w : World) : Calls Try.prog 7 #[] w fun e w' => e = .returned (.bool true) ∧ Below w.heap.size w w' := by
  have hA : Rd (w.alloc (.cells #[.int .u8 1, .int .u8 2, .int .u8 2, .int .u8 0, .int .u8 7, .int .u8 8, .int .u8 60, .int .u8 0, .int .u8 1, .int .u8 0, .int .u8 9, .int .u8 5, .int .u8 0, .int .u8 0, .int .u8 0] 5)) (w.heap.size + 1) 1 (some ⟨w.heap.size, 0, none⟩) 15 (kb.map bv) := Rd.fresh w 5 1 15 (kb.map bv) rfl
  go_enter Try.func7, Try.ntmps7
  go_wp2_with fail
  refine (read_any (b := kb) hA (by omega) (by omega) (by simp)).mono ?_
  rintro e w1 ⟨l, S, rfl, ho, hm, _, hb1⟩
  rw [k_read] at hm ⊢
  rw [World.size_alloc] at ho hb1
  obtain ⟨g, cap, D0, C0, D1, C1, dc0, cc0, dc1, cc1, rfl, I1⟩ := ki_of hm ho hb1
  clear hA hm ho hb1
  go_wp2_with fail
  obtain ⟨A0, c0, hv0, _, hr0⟩ := I1.row.read (by intro x hx; simp at hx; rcases hx with rfl | rfl; exact kr0_small; exact kr1_small)
  injection hv0 with hA0 _ hc0
  subst hA0 hc0
  refine (write_any hr0 (Nat.le_refl _) (by simp)).mono ?_
  rintro e w2 ⟨wv, rfl, ow, hb2⟩
  rw [show ([(⟨kr0, .slice D0 3 dc0, .slice C0 1 cc0⟩ : Item), ⟨kr1, .slice D1 0 dc1, .slice C1 0 cc1⟩].map (·.r)) = [kr0, kr1] from rfl, k_write] at ow ⊢
  have I2 := I1.below hb2
  have ow2 : w2.ownsRow w.heap.size 5 1 wv 15 (kb.map bv) := own_mono ow I1.bel.size
  obtain ⟨WA, wc, rfl, _, _, _⟩ := own_form ow2
  clear ow hr0 hb2 I1
  go_wp2_with fail
  refine (read_any (b := kb.take 9) (I2.b.sub (i := 0) (j := 9) (by omega) (by omega)) (by omega) (by omega) (Nat.le_refl _)).mono ?_
  rintro e w3 ⟨l3, S3, rfl, _, _, _, hb3⟩
  rw [k_read2]
  have I3 := I2.below hb3
  have ow3 := own_below ow2 hb3
  clear I2 ow2 hb3
  have h4 : Rd (w3.alloc (.cells #[.int .u8 60, .int .u8 0, .int .u8 0, .int .u8 0] 5)) (w3.heap.size + 1) 1 (some ⟨w3.heap.size, 0, none⟩) 4 (([0x3C, 0, 0, 0] : List UInt8).map bv) := Rd.fresh w3 5 1 4 (([0x3C, 0, 0, 0] : List UInt8).map bv) rfl
  go_wp2_with fail
  refine (read_any (b := [0x3C, 0, 0, 0]) h4 (by omega) (by omega) (by simp)).mono ?_
  rintro e w4 ⟨l4, S4, rfl, _, _, _, hb4⟩
  rw [World.size_alloc] at hb4
  rw [k_read3]
  have hb4' : Below w3.heap.size w3 w4 := ((Below.refl _ _).alloc (Nat.le_refl _) _).trans (hb4.mono (by omega))
  have I4 := I3.below hb4'
  have ow4 := own_below ow3 hb4'
  clear I3 ow3 hb4' hb4 h4
  have h5 : Rd (w4.alloc (.cells #[.int .u8 1, .int .u8 0, .int .u8 225, .int .u8 0] 5)) (w4.heap.size + 1) 1 (some ⟨w4.heap.size, 0, none⟩) 4 (([1, 0, 0xE1, 0] : List UInt8).map bv) := Rd.fresh w4 5 1 4 (([1, 0, 0xE1, 0] : List UInt8).map bv) rfl
  go_wp2_with fail
  refine (read_any (b := [1, 0, 0xE1, 0]) h5 (by omega) (by omega) (by simp)).mono ?_
  rintro e w5 ⟨l5, S5, rfl, _, _, _, hb5⟩
  rw [World.size_alloc] at hb5
  rw [k_read4]
  have hb5' : Below w4.heap.size w4 w5 := ((Below.refl _ _).alloc (Nat.le_refl _) _).trans (hb5.mono (by omega))
  have I5 := I4.below hb5'
  have ow5 := own_below ow4 hb5'
  clear I4 ow4 hb5' hb5 h5
  have h6 : Rd (w5.alloc (.cells #[.int .u8 1, .int .u8 0, .int .u8 0, .int .u8 0, .int .u8 60, .int .u8 0, .int .u8 1, .int .u8 0, .int .u8 5] 5)) (w5.heap.size + 1) 1 (some ⟨w5.heap.size, 0, none⟩) 9 (([1, 0, 0, 0, 0x3C, 0, 1, 0, 5] : List UInt8).map bv) := Rd.fresh w5 5 1 9 (([1, 0, 0, 0, 0x3C, 0, 1, 0, 5] : List UInt8).map bv) rfl
  go_wp2_with fail
  refine (read_any (b := [1, 0, 0, 0, 0x3C, 0, 1, 0, 5]) h6 (by omega) (by omega) (by simp)).mono ?_
  rintro e w6 ⟨l6, S6, rfl, _, _, _, hb6⟩
  rw [World.size_alloc] at hb6
  rw [k_read5]
  have hb6' : Below w5.heap.size w5 w6 := ((Below.refl _ _).alloc (Nat.le_refl _) _).trans (hb6.mono (by omega))
  have I6 := I5.below hb6'
  have ow6 := own_below ow5 hb6'
  clear I5 ow5 hb6' hb6 h6
  have hmk := run_make500
  go_wp2_with fail
  refine (kcut_any (Rd.fresh w6 5 1 500 (kd500.map bv) (by simp [kd500_len])) (by simp)).mono ?_
  rintro e w7 ⟨DA, dc, CA, cc, rfl, hDA, hCA, hdc, hcc, hb7⟩
  rw [World.size_alloc] at hb7
  have hb7' : Below w6.heap.size w6 w7 := ((Below.refl _ _).alloc (Nat.le_refl _) _).trans (hb7.mono (by omega))
  have I7 := I6.below hb7'
  have ow7 := own_below ow6 hb7'
  clear I6 ow6 hb7' hb7 hmk
  obtain ⟨a1, rfl, _, _⟩ := hCA.at_ (by decide)
  obtain ⟨a0, rfl⟩ : ∃ a0, C0 = some a0 := by
    obtain ⟨_, _, hv, _, _, r0⟩ := own_form (I7.row.cuts ⟨kr0, .slice D0 3 dc0, .slice C0 1 cc0⟩ (by simp))
    injection hv with hA _ _
    subst hA
    obtain ⟨b0, hb0, _⟩ := r0.at_ Nat.zero_lt_one
    exact ⟨b0, hb0⟩
  have F0 : KF w g w7.heap.size cap D0 D1 DA WA C1 a0 a1 dc0 cc0 dc1 cc1 dc cc wc (w7.alloc (.cells #[.int .i64 1, .slice DA 500 dc, .slice (some a1) 2 cc, .int .i64 0] 30)) := by
    have hb : Below w7.heap.size w7 (w7.alloc (.cells #[.int .i64 1, .slice DA 500 dc, .slice (some a1) 2 cc, .int .i64 0] 30)) := (Below.refl _ _).alloc (Nat.le_refl _) _
    exact ⟨I7.below hb, own_below ow7 hb, Bk.new _ _ _, (hDA.below hb).mono hb.size, (hCA.below hb).mono hb.size, hdc, hcc⟩
  clear I7 ow7 hDA hCA hdc hcc
  obtain ⟨_, f0, f1, f2, f3, f4, f5, f6, f7, f8, f9, f10, f11, f12, f13, f14, _, _, _⟩ := F0.s
  go_wp2_with fail
  clear f0 f1 f2 f3 f4 f5 f6 f7 f8 f9 f10 f11 f12 f13 f14
  simp only [List.append]
  refine wp_region_tab (S := KF w g w7.heap.size cap D0 D1 DA WA C1 a0 a1 dc0 cc0 dc1 cc1 dc cc wc) (E := EB) (kl0 w g w7.heap.size cap WA wc) (kl1 w g w7.heap.size cap D0 D1 DA WA C1 a0 a1 dc0 cc0 dc1 cc1 dc cc wc) kk
    (by as_aux_lemma => kernel_rfl) ?_ ?_ ?_ (kstab ..) ?_ F0.drew ?_ ?_
  · as_aux_lemma => kernel_rfl
  · as_aux_lemma => kernel_rfl
  · as_aux_lemma => kernel_rfl
  · exact ⟨rfl, rfl, rfl, rfl, rfl, rfl, rfl, rfl, rfl, rfl, rfl, rfl, rfl, trivial⟩
  · generalize w7.heap.size = gb at *
    clear F0
    refine ⟨?_, ?_, ?_, ?_, ?_, ?_, ?_, ?_, ?_, ?_, ?_, ?_, ?_, ?_, ?_, ?_, ?_, ?_, ?_, ?_, ?_, ?_, ?_, ?_, ?_, ?_, ?_, ?_, ?_, ?_, ?_, ?_, ?_, ?_, ?_, ?_, ?_, ?_, ?_, ?_, ?_, ?_, ?_, ?_, ?_, ?_, ?_, ?_, ?_, ?_, ?_, ?_, ?_, ?_, ?_, ?_, ?_, ?_, ?_, ?_, ?_, ?_, ?_, ?_, ?_, ?_, ?_, ?_, ?_, ?_, ?_, ?_, ?_, ?_, ?_, ?_, ?_, ?_, ?_, ?_, ?_, ?_, ?_, ?_, ?_, ?_, ?_, ?_, ?_, ?_, ?_, ?_, ?_, ?_, ?_, ?_, ?_, ?_, ?_, ?_, ?_, ?_, ?_, ?_, ?_, ?_, ?_, ?_, ?_, ?_, ?_, ?_, ?_, ?_, ?_, ?_, ?_, ?_, ?_, ?_, ?_, ?_, ?_, trivial⟩
    · as_aux_lemma =>
        intro a W hS hL
        have e2 : a.tmps.getD 2 undef = .slice (some ⟨g, 0, none⟩) 2 cap := hL.1
        clear hL
        go_simp
        exact ⟨⟨fun d hd => by injection hd with hd; subst hd; rfl, fun h => by cases h⟩, hS, Below.refl _ _⟩
    · as_aux_lemma =>
        intro a W hS hL
        have e83 : a.tmps.getD 83 undef = .slice (some ⟨g, 0, none⟩) 2 cap := hL.1
        clear hL
        go_simp
        exact ⟨⟨fun d hd => by injection hd with hd; subst hd; rfl, fun h => by cases h⟩, hS, Below.refl _ _⟩
    · as_aux_lemma =>
        intro a W hS hL
        have e84 : a.tmps.getD 84 undef = .pointer (some ⟨g, 0, none⟩) := hL.1
        clear hL
        go_simp
        exact ⟨⟨fun d hd => by injection hd with hd; subst hd; rfl, fun h => by cases h⟩, hS, Below.refl _ _⟩
    · as_aux_lemma =>
        intro a W hS hL
        have e85 : a.tmps.getD 85 undef = .pointer (some ⟨g, 0, none⟩) := hL.1
        clear hL
        obtain ⟨_, f0, f1, f2, f3, f4, f5, f6, f7, f8, f9, f10, f11, f12, f13, f14, f15, f16, f17⟩ := hS.s
        go_simp
        exact ⟨⟨fun d hd => by injection hd with hd; subst hd; rfl, fun h => by cases h⟩, hS, Below.refl _ _⟩
    · as_aux_lemma =>
        intro a W hS hL
        have e86 : a.tmps.getD 86 undef = .int .i64 513 := hL.1
        clear hL
        go_simp
        exact ⟨⟨fun d hd => by injection hd with hd; subst hd; rfl, fun h => by cases h⟩, hS, Below.refl _ _⟩
    · as_aux_lemma =>
        intro a W hS hL
        have e87 : a.tmps.getD 87 undef = .bool true := hL.1
        clear hL
        go_simp
        exact ⟨⟨fun d hd => by injection hd with hd; subst hd; rfl, fun h => by cases h⟩, hS, Below.refl _ _⟩
    · as_aux_lemma =>
        intro a W hS hL
        have e2 : a.tmps.getD 2 undef = .slice (some ⟨g, 0, none⟩) 2 cap := hL.1
        have e88 : a.tmps.getD 88 undef = .bool true := hL.2.1
        clear hL
        refine ⟨true, e88, ?_⟩
        rw [if_pos rfl]
        go_simp
        exact ⟨⟨fun d hd => by injection hd with hd; subst hd; rfl, fun h => by cases h⟩, hS, Below.refl _ _⟩
    · as_aux_lemma =>
        intro a W hS hL
        have e89 : a.tmps.getD 89 undef = .slice (some ⟨g, 0, none⟩) 2 cap := hL.1
        have e88 : a.tmps.getD 88 undef = .bool true := hL.2.1
        clear hL
        refine ⟨true, e88, ?_⟩
        rw [if_pos rfl]
        go_simp
        exact ⟨⟨fun d hd => by injection hd with hd; subst hd; rfl, fun h => by cases h⟩, hS, Below.refl _ _⟩
    · as_aux_lemma =>
        intro a W hS hL
        have e90 : a.tmps.getD 90 undef = .pointer (some ⟨g, 0, none⟩) := hL.1
        have e88 : a.tmps.getD 88 undef = .bool true := hL.2.1
        clear hL
        refine ⟨true, e88, ?_⟩
        rw [if_pos rfl]
        go_simp
        exact ⟨⟨fun d hd => by injection hd with hd; subst hd; rfl, fun h => by cases h⟩, hS, Below.refl _ _⟩
    · as_aux_lemma =>
        intro a W hS hL
        have e91 : a.tmps.getD 91 undef = .pointer (some ⟨g, 1, none⟩) := hL.1
        have e88 : a.tmps.getD 88 undef = .bool true := hL.2.1
        clear hL
        refine ⟨true, e88, ?_⟩
        rw [if_pos rfl]
        obtain ⟨_, f0, f1, f2, f3, f4, f5, f6, f7, f8, f9, f10, f11, f12, f13, f14, f15, f16, f17⟩ := hS.s
        go_simp
        exact ⟨⟨fun d hd => by injection hd with hd; subst hd; rfl, fun h => by cases h⟩, hS, Below.refl _ _⟩
    · as_aux_lemma =>
        intro a W hS hL
        have e92 : a.tmps.getD 92 undef = .slice D0 3 dc0 := hL.1
        have e88 : a.tmps.getD 88 undef = .bool true := hL.2.1
        clear hL
        refine ⟨true, e88, ?_⟩
        rw [if_pos rfl]
        obtain ⟨_, f0, f1, f2, f3, f4, f5, f6, f7, f8, f9, f10, f11, f12, f13, f14, f15, f16, f17⟩ := hS.s
        go_simp
        exact ⟨⟨fun d hd => by injection hd with hd; subst hd; rfl, fun h => by cases h⟩, hS, Below.refl _ _⟩
    · as_aux_lemma =>
        intro a W hS hL
        have e93 : a.tmps.getD 93 undef = .string ⟨#[7, 8, 9]⟩ := hL.1
        have e88 : a.tmps.getD 88 undef = .bool true := hL.2.1
        clear hL
        refine ⟨true, e88, ?_⟩
        rw [if_pos rfl]
        go_simp
        exact ⟨⟨fun d hd => by injection hd with hd; subst hd; rfl, fun h => by cases h⟩, hS, Below.refl _ _⟩
    · as_aux_lemma =>
        intro a W hS hL
        have e88 : a.tmps.getD 88 undef = .bool true := hL.1
        have e94 : a.tmps.getD 94 undef = .bool true := hL.2.1
        clear hL
        go_simp
        exact ⟨⟨fun d hd => by injection hd with hd; subst hd; rfl, fun h => by cases h⟩, hS, Below.refl _ _⟩
    · as_aux_lemma =>
        intro a W hS hL
        have e95 : a.tmps.getD 95 undef = .bool true := hL.1
        clear hL
        go_simp
        exact ⟨⟨fun d hd => by injection hd with hd; subst hd; rfl, fun h => by cases h⟩, hS, Below.refl _ _⟩
    · as_aux_lemma =>
        intro a W hS hL
        have e2 : a.tmps.getD 2 undef = .slice (some ⟨g, 0, none⟩) 2 cap := hL.1
        have e96 : a.tmps.getD 96 undef = .bool true := hL.2.1
        clear hL
        refine ⟨true, e96, ?_⟩
        rw [if_pos rfl]
        go_simp
        exact ⟨⟨fun d hd => by injection hd with hd; subst hd; rfl, fun h => by cases h⟩, hS, Below.refl _ _⟩
    · as_aux_lemma =>
        intro a W hS hL
        have e97 : a.tmps.getD 97 undef = .slice (some ⟨g, 0, none⟩) 2 cap := hL.1
        have e96 : a.tmps.getD 96 undef = .bool true := hL.2.1
        clear hL
        refine ⟨true, e96, ?_⟩
        rw [if_pos rfl]
        go_simp
        exact ⟨⟨fun d hd => by injection hd with hd; subst hd; rfl, fun h => by cases h⟩, hS, Below.refl _ _⟩
    · as_aux_lemma =>
        intro a W hS hL
        have e98 : a.tmps.getD 98 undef = .pointer (some ⟨g, 0, none⟩) := hL.1
        have e96 : a.tmps.getD 96 undef = .bool true := hL.2.1
        clear hL
        refine ⟨true, e96, ?_⟩
        rw [if_pos rfl]
        go_simp
        exact ⟨⟨fun d hd => by injection hd with hd; subst hd; rfl, fun h => by cases h⟩, hS, Below.refl _ _⟩
    · as_aux_lemma =>
        intro a W hS hL
        have e99 : a.tmps.getD 99 undef = .pointer (some ⟨g, 2, none⟩) := hL.1
        have e96 : a.tmps.getD 96 undef = .bool true := hL.2.1
        clear hL
        refine ⟨true, e96, ?_⟩
        rw [if_pos rfl]
        obtain ⟨_, f0, f1, f2, f3, f4, f5, f6, f7, f8, f9, f10, f11, f12, f13, f14, f15, f16, f17⟩ := hS.s
        go_simp
        exact ⟨⟨fun d hd => by injection hd with hd; subst hd; rfl, fun h => by cases h⟩, hS, Below.refl _ _⟩
    · as_aux_lemma =>
        intro a W hS hL
        have e100 : a.tmps.getD 100 undef = .slice (some a0) 1 cc0 := hL.1
        have e96 : a.tmps.getD 96 undef = .bool true := hL.2.1
        clear hL
        refine ⟨true, e96, ?_⟩
        rw [if_pos rfl]
        go_simp
        exact ⟨⟨fun d hd => by injection hd with hd; subst hd; rfl, fun h => by cases h⟩, hS, Below.refl _ _⟩
    · as_aux_lemma =>
        intro a W hS hL
        have e101 : a.tmps.getD 101 undef = .pointer (some a0) := hL.1
        have e96 : a.tmps.getD 96 undef = .bool true := hL.2.1
        clear hL
        refine ⟨true, e96, ?_⟩
        rw [if_pos rfl]
        obtain ⟨_, f0, f1, f2, f3, f4, f5, f6, f7, f8, f9, f10, f11, f12, f13, f14, f15, f16, f17⟩ := hS.s
        go_simp
        exact ⟨⟨fun d hd => by injection hd with hd; subst hd; rfl, fun h => by cases h⟩, hS, Below.refl _ _⟩
    · as_aux_lemma =>
        intro a W hS hL
        have e102 : a.tmps.getD 102 undef = .int .i64 2 := hL.1
        have e96 : a.tmps.getD 96 undef = .bool true := hL.2.1
        clear hL
        refine ⟨true, e96, ?_⟩
        rw [if_pos rfl]
        go_simp
        exact ⟨⟨fun d hd => by injection hd with hd; subst hd; rfl, fun h => by cases h⟩, hS, Below.refl _ _⟩
    · as_aux_lemma =>
        intro a W hS hL
        have e96 : a.tmps.getD 96 undef = .bool true := hL.1
        have e103 : a.tmps.getD 103 undef = .bool true := hL.2.1
        clear hL
        go_simp
        exact ⟨⟨fun d hd => by injection hd with hd; subst hd; rfl, fun h => by cases h⟩, hS, Below.refl _ _⟩
    · as_aux_lemma =>
        intro a W hS hL
        have e104 : a.tmps.getD 104 undef = .bool true := hL.1
        clear hL
        go_simp
        exact ⟨⟨fun d hd => by injection hd with hd; subst hd; rfl, fun h => by cases h⟩, hS, Below.refl _ _⟩
    · as_aux_lemma =>
        intro a W hS hL
        have e2 : a.tmps.getD 2 undef = .slice (some ⟨g, 0, none⟩) 2 cap := hL.1
        have e105 : a.tmps.getD 105 undef = .bool true := hL.2.1
        clear hL
        refine ⟨true, e105, ?_⟩
        rw [if_pos rfl]
        go_simp
        exact ⟨⟨fun d hd => by injection hd with hd; subst hd; rfl, fun h => by cases h⟩, hS, Below.refl _ _⟩
    · as_aux_lemma =>
        intro a W hS hL
        have e106 : a.tmps.getD 106 undef = .slice (some ⟨g, 0, none⟩) 2 cap := hL.1
        have e105 : a.tmps.getD 105 undef = .bool true := hL.2.1
        clear hL
        refine ⟨true, e105, ?_⟩
        rw [if_pos rfl]
        go_simp
        exact ⟨⟨fun d hd => by injection hd with hd; subst hd; rfl, fun h => by cases h⟩, hS, Below.refl _ _⟩
    · as_aux_lemma =>
        intro a W hS hL
        have e107 : a.tmps.getD 107 undef = .pointer (some ⟨g, 4, none⟩) := hL.1
        have e105 : a.tmps.getD 105 undef = .bool true := hL.2.1
        clear hL
        refine ⟨true, e105, ?_⟩
        rw [if_pos rfl]
        go_simp
        exact ⟨⟨fun d hd => by injection hd with hd; subst hd; rfl, fun h => by cases h⟩, hS, Below.refl _ _⟩
    · as_aux_lemma =>
        intro a W hS hL
        have e108 : a.tmps.getD 108 undef = .pointer (some ⟨g, 7, none⟩) := hL.1
        have e105 : a.tmps.getD 105 undef = .bool true := hL.2.1
        clear hL
        refine ⟨true, e105, ?_⟩
        rw [if_pos rfl]
        obtain ⟨_, f0, f1, f2, f3, f4, f5, f6, f7, f8, f9, f10, f11, f12, f13, f14, f15, f16, f17⟩ := hS.s
        go_simp
        exact ⟨⟨fun d hd => by injection hd with hd; subst hd; rfl, fun h => by cases h⟩, hS, Below.refl _ _⟩
    · as_aux_lemma =>
        intro a W hS hL
        have e109 : a.tmps.getD 109 undef = .int .i64 11 := hL.1
        have e105 : a.tmps.getD 105 undef = .bool true := hL.2.1
        clear hL
        refine ⟨true, e105, ?_⟩
        rw [if_pos rfl]
        go_simp
        exact ⟨⟨fun d hd => by injection hd with hd; subst hd; rfl, fun h => by cases h⟩, hS, Below.refl _ _⟩
    · as_aux_lemma =>
        intro a W hS hL
        have e105 : a.tmps.getD 105 undef = .bool true := hL.1
        have e110 : a.tmps.getD 110 undef = .bool true := hL.2.1
        clear hL
        go_simp
        exact ⟨⟨fun d hd => by injection hd with hd; subst hd; rfl, fun h => by cases h⟩, hS, Below.refl _ _⟩
    · as_aux_lemma =>
        intro a W hS hL
        have e111 : a.tmps.getD 111 undef = .bool true := hL.1
        clear hL
        go_simp
        exact ⟨⟨fun d hd => by injection hd with hd; subst hd; rfl, fun h => by cases h⟩, hS, Below.refl _ _⟩
    · as_aux_lemma =>
        intro a W hS hL
        have e6 : a.tmps.getD 6 undef = .int .i64 0 := hL.1
        have e112 : a.tmps.getD 112 undef = .bool true := hL.2.1
        clear hL
        refine ⟨true, e112, ?_⟩
        rw [if_pos rfl]
        go_simp
        exact ⟨⟨fun d hd => by injection hd with hd; subst hd; rfl, fun h => by cases h⟩, hS, Below.refl _ _⟩
    · as_aux_lemma =>
        intro a W hS hL
        have e113 : a.tmps.getD 113 undef = .int .i64 0 := hL.1
        have e112 : a.tmps.getD 112 undef = .bool true := hL.2.1
        clear hL
        refine ⟨true, e112, ?_⟩
        rw [if_pos rfl]
        go_simp
        exact ⟨⟨fun d hd => by injection hd with hd; subst hd; rfl, fun h => by cases h⟩, hS, Below.refl _ _⟩
    · as_aux_lemma =>
        intro a W hS hL
        have e112 : a.tmps.getD 112 undef = .bool true := hL.1
        have e114 : a.tmps.getD 114 undef = .bool true := hL.2.1
        clear hL
        go_simp
        exact ⟨⟨fun d hd => by injection hd with hd; subst hd; rfl, fun h => by cases h⟩, hS, Below.refl _ _⟩
    · as_aux_lemma =>
        intro a W hS hL
        have e115 : a.tmps.getD 115 undef = .bool true := hL.1
        clear hL
        go_simp
        exact ⟨⟨fun d hd => by injection hd with hd; subst hd; rfl, fun h => by cases h⟩, hS, Below.refl _ _⟩
    · as_aux_lemma =>
        intro a W hS hL
        have e5 : a.tmps.getD 5 undef = .slice WA 15 wc := hL.1
        have e116 : a.tmps.getD 116 undef = .bool true := hL.2.1
        clear hL
        refine ⟨true, e116, ?_⟩
        rw [if_pos rfl]
        go_simp
        exact ⟨⟨fun d hd => by injection hd with hd; subst hd; rfl, fun h => by cases h⟩, hS, Below.refl _ _⟩
    · as_aux_lemma =>
        intro a W hS hL
        have e117 : a.tmps.getD 117 undef = .slice WA 15 wc := hL.1
        have e116 : a.tmps.getD 116 undef = .bool true := hL.2.1
        clear hL
        refine ⟨true, e116, ?_⟩
        rw [if_pos rfl]
        obtain ⟨_, f0, f1, f2, f3, f4, f5, f6, f7, f8, f9, f10, f11, f12, f13, f14, f15, f16, f17⟩ := hS.s
        go_simp
        exact ⟨⟨fun d hd => by injection hd with hd; subst hd; rfl, fun h => by cases h⟩, hS, Below.refl _ _⟩
    · as_aux_lemma =>
        intro a W hS hL
        have e1 : a.tmps.getD 1 undef = .slice (some ⟨w.heap.size, 0, none⟩) 15 15 := hL.1
        have e116 : a.tmps.getD 116 undef = .bool true := hL.2.1
        clear hL
        refine ⟨true, e116, ?_⟩
        rw [if_pos rfl]
        go_simp
        exact ⟨⟨fun d hd => by injection hd with hd; subst hd; rfl, fun h => by cases h⟩, hS, Below.refl _ _⟩
    · as_aux_lemma =>
        intro a W hS hL
        have e119 : a.tmps.getD 119 undef = .slice (some ⟨w.heap.size, 0, none⟩) 15 15 := hL.1
        have e116 : a.tmps.getD 116 undef = .bool true := hL.2.1
        clear hL
        refine ⟨true, e116, ?_⟩
        rw [if_pos rfl]
        obtain ⟨_, f0, f1, f2, f3, f4, f5, f6, f7, f8, f9, f10, f11, f12, f13, f14, f15, f16, f17⟩ := hS.s
        go_simp
        exact ⟨⟨fun d hd => by injection hd with hd; subst hd; rfl, fun h => by cases h⟩, hS, Below.refl _ _⟩
    · as_aux_lemma =>
        intro a W hS hL
        have e118 : a.tmps.getD 118 undef = .string (strOf kb) := hL.1
        have e120 : a.tmps.getD 120 undef = .string (strOf kb) := hL.2.1
        have e116 : a.tmps.getD 116 undef = .bool true := hL.2.2.1
        clear hL
        refine ⟨true, e116, ?_⟩
        rw [if_pos rfl]
        go_simp
        exact ⟨⟨fun d hd => by injection hd with hd; subst hd; rfl, fun h => by cases h⟩, hS, Below.refl _ _⟩
    · as_aux_lemma =>
        intro a W hS hL
        have e116 : a.tmps.getD 116 undef = .bool true := hL.1
        have e121 : a.tmps.getD 121 undef = .bool true := hL.2.1
        clear hL
        go_simp
        exact ⟨⟨fun d hd => by injection hd with hd; subst hd; rfl, fun h => by cases h⟩, hS, Below.refl _ _⟩
    · as_aux_lemma =>
        intro a W hS hL
        have e122 : a.tmps.getD 122 undef = .bool true := hL.1
        clear hL
        go_simp
        exact ⟨⟨fun d hd => by injection hd with hd; subst hd; rfl, fun h => by cases h⟩, hS, Below.refl _ _⟩
    · as_aux_lemma =>
        intro a W hS hL
        have e8 : a.tmps.getD 8 undef = .int .i64 6 := hL.1
        have e123 : a.tmps.getD 123 undef = .bool true := hL.2.1
        clear hL
        refine ⟨true, e123, ?_⟩
        rw [if_pos rfl]
        go_simp
        exact ⟨⟨fun d hd => by injection hd with hd; subst hd; rfl, fun h => by cases h⟩, hS, Below.refl _ _⟩
    · as_aux_lemma =>
        intro a W hS hL
        have e124 : a.tmps.getD 124 undef = .int .i64 6 := hL.1
        have e123 : a.tmps.getD 123 undef = .bool true := hL.2.1
        clear hL
        refine ⟨true, e123, ?_⟩
        rw [if_pos rfl]
        go_simp
        exact ⟨⟨fun d hd => by injection hd with hd; subst hd; rfl, fun h => by cases h⟩, hS, Below.refl _ _⟩
    · as_aux_lemma =>
        intro a W hS hL
        have e123 : a.tmps.getD 123 undef = .bool true := hL.1
        have e125 : a.tmps.getD 125 undef = .bool true := hL.2.1
        clear hL
        go_simp
        exact ⟨⟨fun d hd => by injection hd with hd; subst hd; rfl, fun h => by cases h⟩, hS, Below.refl _ _⟩
    · as_aux_lemma =>
        intro a W hS hL
        have e126 : a.tmps.getD 126 undef = .bool true := hL.1
        clear hL
        go_simp
        exact ⟨⟨fun d hd => by injection hd with hd; subst hd; rfl, fun h => by cases h⟩, hS, Below.refl _ _⟩
    · as_aux_lemma =>
        intro a W hS hL
        have e9 : a.tmps.getD 9 undef = .int .i64 5 := hL.1
        have e127 : a.tmps.getD 127 undef = .bool true := hL.2.1
        clear hL
        refine ⟨true, e127, ?_⟩
        rw [if_pos rfl]
        go_simp
        exact ⟨⟨fun d hd => by injection hd with hd; subst hd; rfl, fun h => by cases h⟩, hS, Below.refl _ _⟩
    · as_aux_lemma =>
        intro a W hS hL
        have e128 : a.tmps.getD 128 undef = .int .i64 5 := hL.1
        have e127 : a.tmps.getD 127 undef = .bool true := hL.2.1
        clear hL
        refine ⟨true, e127, ?_⟩
        rw [if_pos rfl]
        go_simp
        exact ⟨⟨fun d hd => by injection hd with hd; subst hd; rfl, fun h => by cases h⟩, hS, Below.refl _ _⟩
    · as_aux_lemma =>
        intro a W hS hL
        have e127 : a.tmps.getD 127 undef = .bool true := hL.1
        have e129 : a.tmps.getD 129 undef = .bool true := hL.2.1
        clear hL
        go_simp
        exact ⟨⟨fun d hd => by injection hd with hd; subst hd; rfl, fun h => by cases h⟩, hS, Below.refl _ _⟩
    · as_aux_lemma =>
        intro a W hS hL
        have e130 : a.tmps.getD 130 undef = .bool true := hL.1
        clear hL
        go_simp
        exact ⟨⟨fun d hd => by injection hd with hd; subst hd; rfl, fun h => by cases h⟩, hS, Below.refl _ _⟩
    · as_aux_lemma =>
        intro a W hS hL
        have e11 : a.tmps.getD 11 undef = .int .i64 0 := hL.1
        have e131 : a.tmps.getD 131 undef = .bool true := hL.2.1
        clear hL
        refine ⟨true, e131, ?_⟩
        rw [if_pos rfl]
        go_simp
        exact ⟨⟨fun d hd => by injection hd with hd; subst hd; rfl, fun h => by cases h⟩, hS, Below.refl _ _⟩
    · as_aux_lemma =>
        intro a W hS hL
        have e132 : a.tmps.getD 132 undef = .int .i64 0 := hL.1
        have e131 : a.tmps.getD 131 undef = .bool true := hL.2.1
        clear hL
        refine ⟨true, e131, ?_⟩
        rw [if_pos rfl]
        go_simp
        exact ⟨⟨fun d hd => by injection hd with hd; subst hd; rfl, fun h => by cases h⟩, hS, Below.refl _ _⟩
    · as_aux_lemma =>
        intro a W hS hL
        have e131 : a.tmps.getD 131 undef = .bool true := hL.1
        have e133 : a.tmps.getD 133 undef = .bool true := hL.2.1
        clear hL
        go_simp
        exact ⟨⟨fun d hd => by injection hd with hd; subst hd; rfl, fun h => by cases h⟩, hS, Below.refl _ _⟩
    · as_aux_lemma =>
        intro a W hS hL
        have e134 : a.tmps.getD 134 undef = .bool true := hL.1
        clear hL
        go_simp
        exact ⟨⟨fun d hd => by injection hd with hd; subst hd; rfl, fun h => by cases h⟩, hS, Below.refl _ _⟩
    · as_aux_lemma =>
        intro a W hS hL
        have e12 : a.tmps.getD 12 undef = .int .i64 6 := hL.1
        have e135 : a.tmps.getD 135 undef = .bool true := hL.2.1
        clear hL
        refine ⟨true, e135, ?_⟩
        rw [if_pos rfl]
        go_simp
        exact ⟨⟨fun d hd => by injection hd with hd; subst hd; rfl, fun h => by cases h⟩, hS, Below.refl _ _⟩
    · as_aux_lemma =>
        intro a W hS hL
        have e136 : a.tmps.getD 136 undef = .int .i64 6 := hL.1
        have e135 : a.tmps.getD 135 undef = .bool true := hL.2.1
        clear hL
        refine ⟨true, e135, ?_⟩
        rw [if_pos rfl]
        go_simp
        exact ⟨⟨fun d hd => by injection hd with hd; subst hd; rfl, fun h => by cases h⟩, hS, Below.refl _ _⟩
    · as_aux_lemma =>
        intro a W hS hL
        have e135 : a.tmps.getD 135 undef = .bool true := hL.1
        have e137 : a.tmps.getD 137 undef = .bool true := hL.2.1
        clear hL
        go_simp
        exact ⟨⟨fun d hd => by injection hd with hd; subst hd; rfl, fun h => by cases h⟩, hS, Below.refl _ _⟩
    · as_aux_lemma =>
        intro a W hS hL
        have e138 : a.tmps.getD 138 undef = .bool true := hL.1
        clear hL
        go_simp
        exact ⟨⟨fun d hd => by injection hd with hd; subst hd; rfl, fun h => by cases h⟩, hS, Below.refl _ _⟩
    · as_aux_lemma =>
        intro a W hS hL
        have e14 : a.tmps.getD 14 undef = .int .i64 0 := hL.1
        have e139 : a.tmps.getD 139 undef = .bool true := hL.2.1
        clear hL
        refine ⟨true, e139, ?_⟩
        rw [if_pos rfl]
        go_simp
        exact ⟨⟨fun d hd => by injection hd with hd; subst hd; rfl, fun h => by cases h⟩, hS, Below.refl _ _⟩
    · as_aux_lemma =>
        intro a W hS hL
        have e140 : a.tmps.getD 140 undef = .int .i64 0 := hL.1
        have e139 : a.tmps.getD 139 undef = .bool true := hL.2.1
        clear hL
        refine ⟨true, e139, ?_⟩
        rw [if_pos rfl]
        go_simp
        exact ⟨⟨fun d hd => by injection hd with hd; subst hd; rfl, fun h => by cases h⟩, hS, Below.refl _ _⟩
    · as_aux_lemma =>
        intro a W hS hL
        have e139 : a.tmps.getD 139 undef = .bool true := hL.1
        have e141 : a.tmps.getD 141 undef = .bool true := hL.2.1
        clear hL
        go_simp
        exact ⟨⟨fun d hd => by injection hd with hd; subst hd; rfl, fun h => by cases h⟩, hS, Below.refl _ _⟩
    · as_aux_lemma =>
        intro a W hS hL
        have e142 : a.tmps.getD 142 undef = .bool true := hL.1
        clear hL
        go_simp
        exact ⟨⟨fun d hd => by injection hd with hd; subst hd; rfl, fun h => by cases h⟩, hS, Below.refl _ _⟩
    · as_aux_lemma =>
        intro a W hS hL
        have e15 : a.tmps.getD 15 undef = .int .i64 4 := hL.1
        have e143 : a.tmps.getD 143 undef = .bool true := hL.2.1
        clear hL
        refine ⟨true, e143, ?_⟩
        rw [if_pos rfl]
        go_simp
        exact ⟨⟨fun d hd => by injection hd with hd; subst hd; rfl, fun h => by cases h⟩, hS, Below.refl _ _⟩
    · as_aux_lemma =>
        intro a W hS hL
        have e144 : a.tmps.getD 144 undef = .int .i64 4 := hL.1
        have e143 : a.tmps.getD 143 undef = .bool true := hL.2.1
        clear hL
        refine ⟨true, e143, ?_⟩
        rw [if_pos rfl]
        go_simp
        exact ⟨⟨fun d hd => by injection hd with hd; subst hd; rfl, fun h => by cases h⟩, hS, Below.refl _ _⟩
    · as_aux_lemma =>
        intro a W hS hL
        have e143 : a.tmps.getD 143 undef = .bool true := hL.1
        have e145 : a.tmps.getD 145 undef = .bool true := hL.2.1
        clear hL
        go_simp
        exact ⟨⟨fun d hd => by injection hd with hd; subst hd; rfl, fun h => by cases h⟩, hS, Below.refl _ _⟩
    · as_aux_lemma =>
        intro a W hS hL
        have e146 : a.tmps.getD 146 undef = .bool true := hL.1
        clear hL
        go_simp
        exact ⟨⟨fun d hd => by injection hd with hd; subst hd; rfl, fun h => by cases h⟩, hS, Below.refl _ _⟩
    · as_aux_lemma =>
        intro a W hS hL
        have e17 : a.tmps.getD 17 undef = .int .i64 4 := hL.1
        have e147 : a.tmps.getD 147 undef = .bool true := hL.2.1
        clear hL
        refine ⟨true, e147, ?_⟩
        rw [if_pos rfl]
        go_simp
        exact ⟨⟨fun d hd => by injection hd with hd; subst hd; rfl, fun h => by cases h⟩, hS, Below.refl _ _⟩
    · as_aux_lemma =>
        intro a W hS hL
        have e148 : a.tmps.getD 148 undef = .int .i64 4 := hL.1
        have e147 : a.tmps.getD 147 undef = .bool true := hL.2.1
        clear hL
        refine ⟨true, e147, ?_⟩
        rw [if_pos rfl]
        go_simp
        exact ⟨⟨fun d hd => by injection hd with hd; subst hd; rfl, fun h => by cases h⟩, hS, Below.refl _ _⟩
    · as_aux_lemma =>
        intro a W hS hL
        have e147 : a.tmps.getD 147 undef = .bool true := hL.1
        have e149 : a.tmps.getD 149 undef = .bool true := hL.2.1
        clear hL
        go_simp
        exact ⟨⟨fun d hd => by injection hd with hd; subst hd; rfl, fun h => by cases h⟩, hS, Below.refl _ _⟩
    · as_aux_lemma =>
        intro a W hS hL
        have e150 : a.tmps.getD 150 undef = .bool true := hL.1
        clear hL
        go_simp
        exact ⟨⟨fun d hd => by injection hd with hd; subst hd; rfl, fun h => by cases h⟩, hS, Below.refl _ _⟩
    · as_aux_lemma =>
        intro a W hS hL
        have e18 : a.tmps.getD 18 undef = .int .i64 2 := hL.1
        have e151 : a.tmps.getD 151 undef = .bool true := hL.2.1
        clear hL
        refine ⟨true, e151, ?_⟩
        rw [if_pos rfl]
        go_simp
        exact ⟨⟨fun d hd => by injection hd with hd; subst hd; rfl, fun h => by cases h⟩, hS, Below.refl _ _⟩
    · as_aux_lemma =>
        intro a W hS hL
        have e152 : a.tmps.getD 152 undef = .int .i64 2 := hL.1
        have e151 : a.tmps.getD 151 undef = .bool true := hL.2.1
        clear hL
        refine ⟨true, e151, ?_⟩
        rw [if_pos rfl]
        go_simp
        exact ⟨⟨fun d hd => by injection hd with hd; subst hd; rfl, fun h => by cases h⟩, hS, Below.refl _ _⟩
    · as_aux_lemma =>
        intro a W hS hL
        have e151 : a.tmps.getD 151 undef = .bool true := hL.1
        have e153 : a.tmps.getD 153 undef = .bool true := hL.2.1
        clear hL
        go_simp
        exact ⟨⟨fun d hd => by injection hd with hd; subst hd; rfl, fun h => by cases h⟩, hS, Below.refl _ _⟩
    · as_aux_lemma =>
        intro a W hS hL
        have e154 : a.tmps.getD 154 undef = .bool true := hL.1
        clear hL
        go_simp
        exact ⟨⟨fun d hd => by injection hd with hd; subst hd; rfl, fun h => by cases h⟩, hS, Below.refl _ _⟩
    · as_aux_lemma =>
        intro a W hS hL
        have e19 : a.tmps.getD 19 undef = .pointer (some ⟨gb, 0, none⟩) := hL.1
        have e155 : a.tmps.getD 155 undef = .bool true := hL.2.1
        clear hL
        refine ⟨true, e155, ?_⟩
        rw [if_pos rfl]
        go_simp
        exact ⟨⟨fun d hd => by injection hd with hd; subst hd; rfl, fun h => by cases h⟩, hS, Below.refl _ _⟩
    · as_aux_lemma =>
        intro a W hS hL
        have e156 : a.tmps.getD 156 undef = .pointer (some ⟨gb, 2, none⟩) := hL.1
        have e155 : a.tmps.getD 155 undef = .bool true := hL.2.1
        clear hL
        refine ⟨true, e155, ?_⟩
        rw [if_pos rfl]
        obtain ⟨_, f0, f1, f2, f3, f4, f5, f6, f7, f8, f9, f10, f11, f12, f13, f14, f15, f16, f17⟩ := hS.s
        go_simp
        exact ⟨⟨fun d hd => by injection hd with hd; subst hd; rfl, fun h => by cases h⟩, hS, Below.refl _ _⟩
    · as_aux_lemma =>
        intro a W hS hL
        have e157 : a.tmps.getD 157 undef = .slice (some a1) 2 cc := hL.1
        have e155 : a.tmps.getD 155 undef = .bool true := hL.2.1
        clear hL
        refine ⟨true, e155, ?_⟩
        rw [if_pos rfl]
        go_simp
        exact ⟨⟨fun d hd => by injection hd with hd; subst hd; rfl, fun h => by cases h⟩, hS, Below.refl _ _⟩
    · as_aux_lemma =>
        intro a W hS hL
        have e158 : a.tmps.getD 158 undef = .pointer (some a1) := hL.1
        have e155 : a.tmps.getD 155 undef = .bool true := hL.2.1
        clear hL
        refine ⟨true, e155, ?_⟩
        rw [if_pos rfl]
        obtain ⟨_, f0, f1, f2, f3, f4, f5, f6, f7, f8, f9, f10, f11, f12, f13, f14, f15, f16, f17⟩ := hS.s
        go_simp
        exact ⟨⟨fun d hd => by injection hd with hd; subst hd; rfl, fun h => by cases h⟩, hS, Below.refl _ _⟩
    · as_aux_lemma =>
        intro a W hS hL
        have e159 : a.tmps.getD 159 undef = .int .i64 224 := hL.1
        have e155 : a.tmps.getD 155 undef = .bool true := hL.2.1
        clear hL
        refine ⟨true, e155, ?_⟩
        rw [if_pos rfl]
        go_simp
        exact ⟨⟨fun d hd => by injection hd with hd; subst hd; rfl, fun h => by cases h⟩, hS, Below.refl _ _⟩
    · as_aux_lemma =>
        intro a W hS hL
        have e155 : a.tmps.getD 155 undef = .bool true := hL.1
        have e160 : a.tmps.getD 160 undef = .bool true := hL.2.1
        clear hL
        go_simp
        exact ⟨⟨fun d hd => by injection hd with hd; subst hd; rfl, fun h => by cases h⟩, hS, Below.refl _ _⟩
    · as_aux_lemma =>
        intro a W hS hL
        have e161 : a.tmps.getD 161 undef = .bool true := hL.1
        clear hL
        go_simp
        exact ⟨⟨fun d hd => by injection hd with hd; subst hd; rfl, fun h => by cases h⟩, hS, Below.refl _ _⟩
    · as_aux_lemma =>
        intro a W hS hL
        have e19 : a.tmps.getD 19 undef = .pointer (some ⟨gb, 0, none⟩) := hL.1
        have e162 : a.tmps.getD 162 undef = .bool true := hL.2.1
        clear hL
        refine ⟨true, e162, ?_⟩
        rw [if_pos rfl]
        go_simp
        exact ⟨⟨fun d hd => by injection hd with hd; subst hd; rfl, fun h => by cases h⟩, hS, Below.refl _ _⟩
    · as_aux_lemma =>
        intro a W hS hL
        have e163 : a.tmps.getD 163 undef = .pointer (some ⟨gb, 2, none⟩) := hL.1
        have e162 : a.tmps.getD 162 undef = .bool true := hL.2.1
        clear hL
        refine ⟨true, e162, ?_⟩
        rw [if_pos rfl]
        obtain ⟨_, f0, f1, f2, f3, f4, f5, f6, f7, f8, f9, f10, f11, f12, f13, f14, f15, f16, f17⟩ := hS.s
        go_simp
        exact ⟨⟨fun d hd => by injection hd with hd; subst hd; rfl, fun h => by cases h⟩, hS, Below.refl _ _⟩
    · as_aux_lemma =>
        intro a W hS hL
        have e164 : a.tmps.getD 164 undef = .slice (some a1) 2 cc := hL.1
        have e162 : a.tmps.getD 162 undef = .bool true := hL.2.1
        clear hL
        refine ⟨true, e162, ?_⟩
        rw [if_pos rfl]
        go_simp
        exact ⟨⟨fun d hd => by injection hd with hd; subst hd; rfl, fun h => by cases h⟩, hS, Below.refl _ _⟩
    · as_aux_lemma =>
        intro a W hS hL
        have e165 : a.tmps.getD 165 undef = .pointer (some ⟨a1.block, a1.off + 1, none⟩) := hL.1
        have e162 : a.tmps.getD 162 undef = .bool true := hL.2.1
        clear hL
        refine ⟨true, e162, ?_⟩
        rw [if_pos rfl]
        obtain ⟨_, f0, f1, f2, f3, f4, f5, f6, f7, f8, f9, f10, f11, f12, f13, f14, f15, f16, f17⟩ := hS.s
        go_simp
        exact ⟨⟨fun d hd => by injection hd with hd; subst hd; rfl, fun h => by cases h⟩, hS, Below.refl _ _⟩
    · as_aux_lemma =>
        intro a W hS hL
        have e166 : a.tmps.getD 166 undef = .int .i64 448 := hL.1
        have e162 : a.tmps.getD 162 undef = .bool true := hL.2.1
        clear hL
        refine ⟨true, e162, ?_⟩
        rw [if_pos rfl]
        go_simp
        exact ⟨⟨fun d hd => by injection hd with hd; subst hd; rfl, fun h => by cases h⟩, hS, Below.refl _ _⟩
    · as_aux_lemma =>
        intro a W hS hL
        have e162 : a.tmps.getD 162 undef = .bool true := hL.1
        have e167 : a.tmps.getD 167 undef = .bool true := hL.2.1
        clear hL
        go_simp
        exact ⟨⟨fun d hd => by injection hd with hd; subst hd; rfl, fun h => by cases h⟩, hS, Below.refl _ _⟩
    · as_aux_lemma =>
        intro a W hS hL
        have e168 : a.tmps.getD 168 undef = .bool true := hL.1
        clear hL
        go_simp
        exact ⟨⟨fun d hd => by injection hd with hd; subst hd; rfl, fun h => by cases h⟩, hS, Below.refl _ _⟩
    · as_aux_lemma =>
        intro a W hS hL
        have e2 : a.tmps.getD 2 undef = .slice (some ⟨g, 0, none⟩) 2 cap := hL.1
        have e169 : a.tmps.getD 169 undef = .bool true := hL.2.1
        clear hL
        refine ⟨true, e169, ?_⟩
        rw [if_pos rfl]
        go_simp
        exact ⟨⟨fun d hd => by injection hd with hd; subst hd; rfl, fun h => by cases h⟩, hS, Below.refl _ _⟩
    · as_aux_lemma =>
        intro a W hS hL
        have e170 : a.tmps.getD 170 undef = .slice (some ⟨g, 0, none⟩) 2 cap := hL.1
        have e169 : a.tmps.getD 169 undef = .bool true := hL.2.1
        clear hL
        refine ⟨true, e169, ?_⟩
        rw [if_pos rfl]
        go_simp
        exact ⟨⟨fun d hd => by injection hd with hd; subst hd; rfl, fun h => by cases h⟩, hS, Below.refl _ _⟩
    · as_aux_lemma =>
        intro a W hS hL
        have e171 : a.tmps.getD 171 undef = .pointer (some ⟨g, 0, none⟩) := hL.1
        have e169 : a.tmps.getD 169 undef = .bool true := hL.2.1
        clear hL
        refine ⟨true, e169, ?_⟩
        rw [if_pos rfl]
        obtain ⟨_, f0, f1, f2, f3, f4, f5, f6, f7, f8, f9, f10, f11, f12, f13, f14, f15, f16, f17⟩ := hS.s
        go_simp
        exact ⟨⟨fun d hd => by injection hd with hd; subst hd; rfl, fun h => by cases h⟩, hS, Below.refl _ _⟩
    · as_aux_lemma =>
        intro a W hS hL
        have e2 : a.tmps.getD 2 undef = .slice (some ⟨g, 0, none⟩) 2 cap := hL.1
        have e169 : a.tmps.getD 169 undef = .bool true := hL.2.1
        clear hL
        refine ⟨true, e169, ?_⟩
        rw [if_pos rfl]
        go_simp
        exact ⟨⟨fun d hd => by injection hd with hd; subst hd; rfl, fun h => by cases h⟩, hS, Below.refl _ _⟩
    · as_aux_lemma =>
        intro a W hS hL
        have e173 : a.tmps.getD 173 undef = .slice (some ⟨g, 0, none⟩) 2 cap := hL.1
        have e169 : a.tmps.getD 169 undef = .bool true := hL.2.1
        clear hL
        refine ⟨true, e169, ?_⟩
        rw [if_pos rfl]
        go_simp
        exact ⟨⟨fun d hd => by injection hd with hd; subst hd; rfl, fun h => by cases h⟩, hS, Below.refl _ _⟩
    · as_aux_lemma =>
        intro a W hS hL
        have e174 : a.tmps.getD 174 undef = .pointer (some ⟨g, 0, none⟩) := hL.1
        have e169 : a.tmps.getD 169 undef = .bool true := hL.2.1
        clear hL
        refine ⟨true, e169, ?_⟩
        rw [if_pos rfl]
        obtain ⟨_, f0, f1, f2, f3, f4, f5, f6, f7, f8, f9, f10, f11, f12, f13, f14, f15, f16, f17⟩ := hS.s
        go_simp
        exact ⟨⟨fun d hd => by injection hd with hd; subst hd; rfl, fun h => by cases h⟩, hS, Below.refl _ _⟩
    · as_aux_lemma =>
        intro a W hS hL
        have e172 : a.tmps.getD 172 undef = .agg #[.int .i64 513, .slice D0 3 dc0, .slice (some a0) 1 cc0, .int .i64 0] := hL.1
        have e175 : a.tmps.getD 175 undef = .agg #[.int .i64 513, .slice D0 3 dc0, .slice (some a0) 1 cc0, .int .i64 0] := hL.2.1
        have e169 : a.tmps.getD 169 undef = .bool true := hL.2.2.1
        clear hL
        refine ⟨true, e169, ?_⟩
        rw [if_pos rfl]
        go_simp
        refine (ksame00 hS).mono ?_
        rintro e w' ⟨rfl, hb⟩
        exact ⟨_, rfl, ⟨fun d hd => by injection hd with hd; subst hd; rfl, fun h => by cases h⟩, hS.below hb, hb⟩
    · as_aux_lemma =>
        intro a W hS hL
        have e169 : a.tmps.getD 169 undef = .bool true := hL.1
        have e176 : a.tmps.getD 176 undef = .bool true := hL.2.1
        clear hL
        go_simp
        exact ⟨⟨fun d hd => by injection hd with hd; subst hd; rfl, fun h => by cases h⟩, hS, Below.refl _ _⟩
    · as_aux_lemma =>
        intro a W hS hL
        have e177 : a.tmps.getD 177 undef = .bool true := hL.1
        clear hL
        go_simp
        exact ⟨⟨fun d hd => by injection hd with hd; subst hd; rfl, fun h => by cases h⟩, hS, Below.refl _ _⟩
    · as_aux_lemma =>
        intro a W hS hL
        have e2 : a.tmps.getD 2 undef = .slice (some ⟨g, 0, none⟩) 2 cap := hL.1
        have e178 : a.tmps.getD 178 undef = .bool true := hL.2.1
        clear hL
        refine ⟨true, e178, ?_⟩
        rw [if_pos rfl]
        go_simp
        exact ⟨⟨fun d hd => by injection hd with hd; subst hd; rfl, fun h => by cases h⟩, hS, Below.refl _ _⟩
    · as_aux_lemma =>
        intro a W hS hL
        have e179 : a.tmps.getD 179 undef = .slice (some ⟨g, 0, none⟩) 2 cap := hL.1
        have e178 : a.tmps.getD 178 undef = .bool true := hL.2.1
        clear hL
        refine ⟨true, e178, ?_⟩
        rw [if_pos rfl]
        go_simp
        exact ⟨⟨fun d hd => by injection hd with hd; subst hd; rfl, fun h => by cases h⟩, hS, Below.refl _ _⟩
    · as_aux_lemma =>
        intro a W hS hL
        have e180 : a.tmps.getD 180 undef = .pointer (some ⟨g, 0, none⟩) := hL.1
        have e178 : a.tmps.getD 178 undef = .bool true := hL.2.1
        clear hL
        refine ⟨true, e178, ?_⟩
        rw [if_pos rfl]
        obtain ⟨_, f0, f1, f2, f3, f4, f5, f6, f7, f8, f9, f10, f11, f12, f13, f14, f15, f16, f17⟩ := hS.s
        go_simp
        exact ⟨⟨fun d hd => by injection hd with hd; subst hd; rfl, fun h => by cases h⟩, hS, Below.refl _ _⟩
    · as_aux_lemma =>
        intro a W hS hL
        have e2 : a.tmps.getD 2 undef = .slice (some ⟨g, 0, none⟩) 2 cap := hL.1
        have e178 : a.tmps.getD 178 undef = .bool true := hL.2.1
        clear hL
        refine ⟨true, e178, ?_⟩
        rw [if_pos rfl]
        go_simp
        exact ⟨⟨fun d hd => by injection hd with hd; subst hd; rfl, fun h => by cases h⟩, hS, Below.refl _ _⟩
    · as_aux_lemma =>
        intro a W hS hL
        have e182 : a.tmps.getD 182 undef = .slice (some ⟨g, 0, none⟩) 2 cap := hL.1
        have e178 : a.tmps.getD 178 undef = .bool true := hL.2.1
        clear hL
        refine ⟨true, e178, ?_⟩
        rw [if_pos rfl]
        go_simp
        exact ⟨⟨fun d hd => by injection hd with hd; subst hd; rfl, fun h => by cases h⟩, hS, Below.refl _ _⟩
    · as_aux_lemma =>
        intro a W hS hL
        have e183 : a.tmps.getD 183 undef = .pointer (some ⟨g, 4, none⟩) := hL.1
        have e178 : a.tmps.getD 178 undef = .bool true := hL.2.1
        clear hL
        refine ⟨true, e178, ?_⟩
        rw [if_pos rfl]
        obtain ⟨_, f0, f1, f2, f3, f4, f5, f6, f7, f8, f9, f10, f11, f12, f13, f14, f15, f16, f17⟩ := hS.s
        go_simp
        exact ⟨⟨fun d hd => by injection hd with hd; subst hd; rfl, fun h => by cases h⟩, hS, Below.refl _ _⟩
    · as_aux_lemma =>
        intro a W hS hL
        have e181 : a.tmps.getD 181 undef = .agg #[.int .i64 513, .slice D0 3 dc0, .slice (some a0) 1 cc0, .int .i64 0] := hL.1
        have e184 : a.tmps.getD 184 undef = .agg #[.int .i64 5, .slice D1 0 dc1, .slice C1 0 cc1, .int .i64 11] := hL.2.1
        have e178 : a.tmps.getD 178 undef = .bool true := hL.2.2.1
        clear hL
        refine ⟨true, e178, ?_⟩
        rw [if_pos rfl]
        go_simp
        refine (ksame01 hS).mono ?_
        rintro e w' ⟨rfl, hb⟩
        exact ⟨_, rfl, ⟨fun d hd => by injection hd with hd; subst hd; rfl, fun h => by cases h⟩, hS.below hb, hb⟩
    · as_aux_lemma =>
        intro a W hS hL
        have e185 : a.tmps.getD 185 undef = .bool false := hL.1
        have e178 : a.tmps.getD 178 undef = .bool true := hL.2.1
        clear hL
        refine ⟨true, e178, ?_⟩
        rw [if_pos rfl]
        go_simp
        exact ⟨⟨fun d hd => by injection hd with hd; subst hd; rfl, fun h => by cases h⟩, hS, Below.refl _ _⟩
    · as_aux_lemma =>
        intro a W hS hL
        have e178 : a.tmps.getD 178 undef = .bool true := hL.1
        have e186 : a.tmps.getD 186 undef = .bool true := hL.2.1
        clear hL
        go_simp
        exact ⟨⟨fun d hd => by injection hd with hd; subst hd; rfl, fun h => by cases h⟩, hS, Below.refl _ _⟩
    · as_aux_lemma =>
        intro a W hS hL
        have e187 : a.tmps.getD 187 undef = .bool true := hL.1
        clear hL
        go_simp
        exact ⟨⟨fun d hd => by injection hd with hd; subst hd; rfl, fun h => by cases h⟩, hS, Below.refl _ _⟩
    · as_aux_lemma =>
        intro a W hS hL
        have e188 : a.tmps.getD 188 undef = .bool true := hL.1
        clear hL
        refine ⟨true, e188, ?_⟩
        rw [if_pos rfl]
        go_simp
        exact ⟨⟨fun d hd => by injection hd with hd; subst hd; rfl, fun h => by cases h⟩, hS, Below.refl _ _⟩
    · as_aux_lemma =>
        intro a W hS hL
        have e189 : a.tmps.getD 189 undef = .agg #[.int .i64 60, .slice none 0 0, .slice none 0 0, .int .i64 0] := hL.1
        have e188 : a.tmps.getD 188 undef = .bool true := hL.2.1
        clear hL
        refine ⟨true, e188, ?_⟩
        rw [if_pos rfl]
        go_simp
        refine (kcheck1 _).mono ?_
        rintro e w' ⟨rfl, hb⟩
        exact ⟨_, rfl, ⟨fun d hd => by injection hd with hd; subst hd; rfl, fun h => by cases h⟩, hS.below hb, hb⟩
    · as_aux_lemma =>
        intro a W hS hL
        have e190 : a.tmps.getD 190 undef = .int .i64 1 := hL.1
        have e188 : a.tmps.getD 188 undef = .bool true := hL.2.1
        clear hL
        refine ⟨true, e188, ?_⟩
        rw [if_pos rfl]
        go_simp
        exact ⟨⟨fun d hd => by injection hd with hd; subst hd; rfl, fun h => by cases h⟩, hS, Below.refl _ _⟩
    · as_aux_lemma =>
        intro a W hS hL
        have e188 : a.tmps.getD 188 undef = .bool true := hL.1
        have e191 : a.tmps.getD 191 undef = .bool true := hL.2.1
        clear hL
        go_simp
        exact ⟨⟨fun d hd => by injection hd with hd; subst hd; rfl, fun h => by cases h⟩, hS, Below.refl _ _⟩
    · as_aux_lemma =>
        intro a W hS hL
        have e192 : a.tmps.getD 192 undef = .bool true := hL.1
        clear hL
        go_simp
        exact ⟨⟨fun d hd => by injection hd with hd; subst hd; rfl, fun h => by cases h⟩, hS, Below.refl _ _⟩
    · as_aux_lemma =>
        intro a W hS hL
        have e193 : a.tmps.getD 193 undef = .bool true := hL.1
        clear hL
        refine ⟨true, e193, ?_⟩
        rw [if_pos rfl]
        go_simp
        exact ⟨⟨fun d hd => by injection hd with hd; subst hd; exact ⟨_, rfl, Bk.new _ _ _⟩, fun h => by cases h⟩, hS.alloc _, (Below.refl _ _).alloc (Nat.le_refl _) _⟩
    · as_aux_lemma =>
        intro a W hS hL
        have e193 : a.tmps.getD 193 undef = .bool true := hL.1
        clear hL
        refine ⟨true, e193, ?_⟩
        rw [if_pos rfl]
        go_simp
        exact ⟨⟨fun d hd => by injection hd with hd; subst hd; exact ⟨_, rfl, Bk.new _ _ _⟩, fun h => by cases h⟩, hS.alloc _, (Below.refl _ _).alloc (Nat.le_refl _) _⟩
    · as_aux_lemma =>
        intro a W hS hL
        have e194 := hL.1
        have e195 := hL.2.1
        have e193 : a.tmps.getD 193 undef = .bool true := hL.2.2.1
        clear hL
        refine ⟨true, e193, ?_⟩
        rw [if_pos rfl]
        obtain ⟨g1, e1, k1⟩ := e194
        obtain ⟨g2, e2, k2⟩ := e195
        rw [Array.getD_eq_getD_getElem?] at e1 e2
        go_simp
        exact ⟨⟨fun d hd => by injection hd with hd; subst hd; exact ⟨g1, g2, rfl, k1, k2⟩, fun h => by cases h⟩, hS, Below.refl _ _⟩
    · as_aux_lemma =>
        intro a W hS hL
        have e196 := hL.1
        have e193 : a.tmps.getD 193 undef = .bool true := hL.2.1
        clear hL
        refine ⟨true, e193, ?_⟩
        rw [if_pos rfl]
        obtain ⟨g1, g2, e, k1, k2⟩ := e196
        go_simp
        refine (kcheck6 _ k1.lt k2.lt (k1.cell 0) (k2.cell 0)).mono ?_
        rintro e w' ⟨rfl, hb⟩
        exact ⟨_, rfl, ⟨fun d hd => by injection hd with hd; subst hd; rfl, fun h => by cases h⟩, hS.below hb, hb⟩
    · as_aux_lemma =>
        intro a W hS hL
        have e197 : a.tmps.getD 197 undef = .int .i64 6 := hL.1
        have e193 : a.tmps.getD 193 undef = .bool true := hL.2.1
        clear hL
        refine ⟨true, e193, ?_⟩
        rw [if_pos rfl]
        go_simp
        exact ⟨⟨fun d hd => by injection hd with hd; subst hd; rfl, fun h => by cases h⟩, hS, Below.refl _ _⟩
    · as_aux_lemma =>
        intro a W hS hL
        have e193 : a.tmps.getD 193 undef = .bool true := hL.1
        have e198 : a.tmps.getD 198 undef = .bool true := hL.2.1
        clear hL
        go_simp
        exact ⟨⟨fun d hd => by injection hd with hd; subst hd; rfl, fun h => by cases h⟩, hS, Below.refl _ _⟩
    · as_aux_lemma =>
        intro a W hS hL
        have e199 : a.tmps.getD 199 undef = .bool true := hL.1
        clear hL
        go_simp
        exact ⟨⟨fun d hd => by injection hd with hd; subst hd; rfl, fun h => by cases h⟩, hS, Below.refl _ _⟩
    · as_aux_lemma =>
        intro a W hS hL
        have e19 : a.tmps.getD 19 undef = .pointer (some ⟨gb, 0, none⟩) := hL.1
        have e200 : a.tmps.getD 200 undef = .bool true := hL.2.1
        clear hL
        refine ⟨true, e200, ?_⟩
        rw [if_pos rfl]
        obtain ⟨_, f0, f1, f2, f3, f4, f5, f6, f7, f8, f9, f10, f11, f12, f13, f14, f15, f16, f17⟩ := hS.s
        go_simp
        exact ⟨⟨fun d hd => by injection hd with hd; subst hd; rfl, fun h => by cases h⟩, hS, Below.refl _ _⟩
    · as_aux_lemma =>
        intro a W hS hL
        have e201 : a.tmps.getD 201 undef = .agg #[.int .i64 1, .slice DA 500 dc, .slice (some a1) 2 cc, .int .i64 0] := hL.1
        have e200 : a.tmps.getD 200 undef = .bool true := hL.2.1
        clear hL
        refine ⟨true, e200, ?_⟩
        rw [if_pos rfl]
        go_simp
        refine (kcheck0 hS).mono ?_
        rintro e w' ⟨rfl, hb⟩
        exact ⟨_, rfl, ⟨fun d hd => by injection hd with hd; subst hd; rfl, fun h => by cases h⟩, hS.below hb, hb⟩
    · as_aux_lemma =>
        intro a W hS hL
        have e202 : a.tmps.getD 202 undef = .int .i64 0 := hL.1
        have e200 : a.tmps.getD 200 undef = .bool true := hL.2.1
        clear hL
        refine ⟨true, e200, ?_⟩
        rw [if_pos rfl]
        go_simp
        exact ⟨⟨fun d hd => by injection hd with hd; subst hd; rfl, fun h => by cases h⟩, hS, Below.refl _ _⟩
    · as_aux_lemma =>
        intro a W hS hL
        have e200 : a.tmps.getD 200 undef = .bool true := hL.1
        have e203 : a.tmps.getD 203 undef = .bool true := hL.2.1
        clear hL
        go_simp
        exact ⟨⟨fun d hd => by injection hd with hd; subst hd; rfl, fun h => by cases h⟩, hS, Below.refl _ _⟩
    · as_aux_lemma =>
        intro a W hS hL
        have e204 : a.tmps.getD 204 undef = .bool true := hL.1
        clear hL
        go_simp
        exact ⟨⟨fun d hd => by injection hd with hd; subst hd; rfl, fun h => by cases h⟩, hS, Below.refl _ _⟩
  · intro a W hd hsz hT _ hS
    have e0 : a.tmps.getD 0 undef = .bool true := hT 0 (by simp)
    go_wp2
    refine bodyPost_ret (results_tmp rfl _ _ _) hd ⟨?_, hS.k.bel⟩
    rw [e0]
end Go.Proofs.Ytpjimppfgmemeaa
