/- cashbooklaw11.FunChooses returns true. Conditions: the tables are laid; the row reads, cell by cell, as values' cells. -/
/- A row of values that came in as an argument reads, cell by cell. Condition: none but that it is read. -/
import Derived.Test.YtngkolcpbgibcaaGreatDoorChL
import Derived.Test.YtngkolcpbgibcaaGreatDoorTy1
import Derived.Test.YtngkolcpbgibcaaGreatDoorGx
import Derived.ProofKit
import Derived.ChangeArms
import Derived.Deep.Slices
import Derived.Lib.SmallJoins
import Derived.OpenShut
set_option linter.unusedVariables false
set_option linter.unusedSimpArgs false
namespace Go.Proofs.YtngkolcpbgibcaaGreatDoor
open Go.RowKit Go.Lib
abbrev RW := Int × Int × Int × ByteArray × Bool × Int
def rcs (r : RW) : List Value := [.int .i64 r.1, .int .i64 r.2.1, .int .i64 r.2.2.1, .string r.2.2.2.1, .bool r.2.2.2.2.1, .int .i64 r.2.2.2.2.2]
def rck (r : RW) : Int := ckV r.1 r.2.1 r.2.2.1 r.2.2.2.1 r.2.2.2.2.1 r.2.2.2.2.2
def rgood (r : RW) (x : VX) : Prop := rcs r = vc x ∧ PG x ∧ (stX x).size ≤ 1000 ∧ rck r = 0 ∧ r.2.2.2.1.size ≤ 1000
theorem rgood_of {r : RW} (m0 : -9223372036854775808 ≤ r.2.1) (m1 : r.2.1 ≤ 9223372036854775807) (hl : r.2.2.2.1.size ≤ 1000) (h : rck r = 0) : ∃ x, rgood r x := by
  obtain ⟨k, m, s, t, b, e⟩ := r; obtain ⟨x, hx, hsx, -, e0⟩ := ckV_form h m0 m1
  have hs : (stX x).size ≤ t.size := by
    cases x with
    | str l => exact hsx
    | _ => exact Nat.zero_le _
  have hl' : t.size ≤ 1000 := hl; have sx : shortX 100000000 x := by cases x <;> first | trivial | (have : _ ≤ t.size := hsx; show _ ≤ _; omega)
  refine ⟨x, ?_, okX_pg hx sx, by omega, h, hl⟩; rw [xval_vc] at e0; have e1 := Value.agg.inj e0; have e2 := congrArg Array.toList e1; exact e2
theorem rfront : ∀ (R : List RW), (∀ r ∈ R, -9223372036854775808 ≤ r.2.1 ∧ r.2.1 ≤ 9223372036854775807) → ∃ l : List VX, l.length ≤ R.length ∧ (∀ (i : Nat) (x : VX), l[i]? = some x → ∃ r, R[i]? = some r ∧ rgood r x) ∧
    (l.length < R.length → ∃ r, R[l.length]? = some r ∧ (1000 < r.2.2.2.1.size ∨ (r.2.2.2.1.size ≤ 1000 ∧ rck r ≠ 0)))
  | [], _ => ⟨[], Nat.le_refl _, fun i x h => by simp at h, fun h => by simp at h⟩
  | r :: R, hm => by
    by_cases hl : 1000 < r.2.2.2.1.size
    · exact ⟨[], Nat.zero_le _, fun i x h => by simp at h, fun _ => ⟨r, rfl, .inl hl⟩⟩
    · by_cases hc : rck r = 0
      · obtain ⟨x, hx⟩ := rgood_of (hm r (List.mem_cons_self ..)).1 (hm r (List.mem_cons_self ..)).2 (by omega) hc; obtain ⟨l, h1, h2, h3⟩ := rfront R fun q hq => hm q (List.mem_cons_of_mem _ hq); refine ⟨x :: l, by simpa using h1, fun i y hi => ?_, fun h => ?_⟩
        · cases i with
          | zero =>
            simp only [List.getElem?_cons_zero, Option.some.injEq] at hi; subst hi; exact ⟨r, rfl, hx⟩
          | succ i =>
            simp only [List.getElem?_cons_succ] at hi ⊢; exact h2 i y hi
        · obtain ⟨q, hq, hb⟩ := h3 (by simpa using h); exact ⟨q, by simpa using hq, hb⟩
      · exact ⟨[], Nat.zero_le _, fun i x h => by simp at h, fun _ => ⟨r, rfl, .inr ⟨by omega, hc⟩⟩⟩
section
variable {w : World} {A : Option Addr} {c : Nat} {x y z r : VX}
theorem only_one (x : VX) : onlyX (false, [x]) = x := rfl
theorem lk_same {a b r x' y' : VX} (h1 : a.kind = 4 → r = b) (h2 : ¬ a.kind = 4 → r = a) (hx : Lk r a x') (hy : Lk r b y') : unlessX x' (false, [y']) = r := by
  have e1 : x' = a := by
    rcases hx with e | ⟨e, e2⟩
    · exact e
    · have h3 := h2 (by rw [e]; decide); rw [e2, h3]
  subst e1; unfold unlessX
  by_cases h4 : x'.kind = 4
  · rw [if_pos h4, only_one]; have h3 := h1 h4
    rcases hy with e | ⟨e, e2⟩
    · rw [e, h3]
    · exact e2
  · rw [if_neg h4, h2 h4]
theorem wh_z (z t : Int) (h : t ≤ z) : whX (.num z 0) t = .ok z := if_pos ⟨rfl, h⟩
theorem choose_at {l : List VX} {k : Nat} (h : l[k]? = some x) : chooseX (.num (1 + (k : Int)) 0) (l.map fun x => (false, [x])) = x := by
  have hk := (List.getElem?_eq_some_iff.1 h).1; unfold chooseX; rw [wh_z (1 + (k : Int)) 1 (by omega)]; dsimp only; rw [if_neg (by rw [List.length_map]; omega), show (1 + (k : Int)).toNat - 1 = k by omega, List.getD_eq_getElem?_getD, List.getElem?_map, h]; rfl
theorem index_at {l : List VX} {k : Nat} (h : l[k]? = some x) : indexX l (.num ((k : Int) + 1) 0) = x := by
  have hk := (List.getElem?_eq_some_iff.1 h).1; unfold indexX; rw [wh_z ((k : Int) + 1) (-9223372036854775808) (by omega)]; dsimp only; rw [if_pos (by omega), show ((k : Int) + 1).toNat - 1 = k by omega, List.getD_eq_getElem?_getD, h]; rfl
end
set_option maxRecDepth 20000 in
set_option maxHeartbeats 8000000 in
theorem choose_out {w : World} (HFn : FnT w) (HTn : Tens w) (HVl : Val w) {A : Option Addr} {c n N : Nat} (h : N = 0 ∨ 20 < N) :
    Calls Tryz.prog 8 #[.slice A N c, .int .u8 n] w fun e W => e = .returned (.bool true) ∧ Below w.heap.size w W := by
  have HK := Lib.hid (fun (W : World) (hb : Below w.heap.size w W) => known_any (HFn.below hb) (HTn.below hb) (HVl.below hb)); have HB := Lib.hid (BX.start w); clear HFn HTn HVl
  rcases h with rfl | h
  · go_enter Tryz.func8, Tryz.ntmps8
    repeat' (first | go_values | go_skip | go_guarded | go_step | go_upon)
    refine (HK.out _ HB.out.bel).mono ?_; rintro e W1 ⟨rfl, hb⟩; have HB := Lib.hid (HB.out.call hb); clear hb; dsimp only
    repeat' (first | go_values | go_skip | go_guarded | go_step | go_upon)
    go_ret; exact ⟨rfl, HB.out.bel⟩
  · have h0 : ¬ ((N : Int) = 0) := by omega
    have h20 : (20 : Int) < (N : Int) := by omega
    clear h; go_enter Tryz.func8, Tryz.ntmps8
    repeat' (first | go_values | go_skip | go_guarded | go_step | go_upon)
    refine (HK.out _ HB.out.bel).mono ?_; rintro e W1 ⟨rfl, hb⟩; have HB := Lib.hid (HB.out.call hb); clear hb; dsimp only
    repeat' (first | go_values | go_skip | go_guarded | go_step | go_upon)
    go_ret; exact ⟨rfl, HB.out.bel⟩
theorem choosesLaw {w : World} (HF : FnT w) (HT : Tens w) (HV : Val w) {A : Option Addr} {c n N : Nat} {R : List RW} (hn : n ≤ 255) (hRN : R.length = N) (hm : ∀ r ∈ R, -9223372036854775808 ≤ r.2.1 ∧ r.2.1 ≤ 9223372036854775807)
    (hsrc : 0 < N → ∃ aa, A = some aa ∧ aa.block < w.heap.size ∧ ∀ (i : Nat) (r : RW), R[i]? = some r → ∀ (j : Nat) (u : Value), (rcs r)[j]? = some u → w.cell? (aa.add (i * 6 + j)) = some u) :
    Calls Tryz.prog 8 #[.slice A N c, .int .u8 n] w fun e W => e = .returned (.bool true) ∧ Below w.heap.size w W := by
  by_cases h0 : N = 0 ∨ 20 < N
  · exact choose_out HF HT HV h0
  · have hN0 : 0 < N := by omega
    have hN20 : N ≤ 20 := by omega
    obtain ⟨aa, rfl, hb, hc⟩ := hsrc hN0; obtain ⟨l, h1, h2, h3⟩ := rfront R hm
    have hpg : ∀ y ∈ l, PG y := fun y hy => by
      obtain ⟨i, hi⟩ := List.getElem?_of_mem hy; obtain ⟨r, _, hg⟩ := h2 i y hi; exact hg.2.1
    refine choose_walk HF HT HV (R := R.map rcs) (l := l) (J := l.length) hn hN0 hN20 (by rw [List.length_map]; exact hRN) (fun W hW i cs hi j u hu => ?_) rfl (by rw [← hRN]; exact h1) (fun i x hi => ?_) (fun hlt => ?_) (fun hJ a b x ha hb' hx => ?_)
    · rw [List.getElem?_map, Option.map_eq_some_iff] at hi; obtain ⟨r, hr, rfl⟩ := hi; exact (hW.cell (by rw [add_block, add_block]; exact hb)).trans (by rw [add_add]; exact hc i r hr j u hu)
    · obtain ⟨r, hr, hg⟩ := h2 i x hi; refine ⟨by rw [List.getElem?_map, hr]; exact congrArg some hg.1, hg.2.2.1, fun W hW => ?_⟩; obtain ⟨k, m, s, t, b, e⟩ := r; have h5 : t.size ≤ 1000 := hg.2.2.2.2; have h := check_v (w := W) (HV.below hW) k m s t b e (by omega); have e1 : (#[.int .i64 k, .int .i64 m, .int .i64 s, .string t, .bool b, .int .i64 e] : Array Value) = (vc x).toArray := congrArg List.toArray hg.1; rw [e1, show ckV k m s t b e = 0 from hg.2.2.2.1] at h; exact h
    · obtain ⟨⟨k, m, s, t, b, e⟩, hr, hbad⟩ := h3 (by rw [hRN]; exact hlt); refine ⟨k, m, s, t, b, e, by rw [List.getElem?_map, hr]; rfl, ?_⟩
      rcases hbad with h | ⟨h, hne⟩
      · exact .inl h
      · have h5 : t.size ≤ 1000 := h; exact .inr ⟨h, _, hne, fun W hW => check_v (w := W) (HV.below hW) k m s t b e (by omega)⟩
    · have pa := hpg a (List.mem_of_getElem? ha); have pb := hpg b (List.mem_of_getElem? hb'); have hkN : n % N < N := Nat.mod_lt n hN0; have pn : ∀ z : Int, -1000 ≤ z → z ≤ 1000 → PG (.num z 0) := fun z z0 z1 => pg_num (gd_small z0 z1); have pt : ∀ t : Bool, PG (.bool t) := pg_bool; obtain ⟨r, hr⟩ : ∃ r, (if a.kind = 4 then b else a) = r := ⟨_, rfl⟩
      have r1 : a.kind = 4 → r = b := fun h => by rw [← hr, if_pos h]
      have r2 : ¬ a.kind = 4 → r = a := fun h => by rw [← hr, if_neg h]
      have pr : PG r := by
        by_cases h : a.kind = 4
        · rw [r1 h]; exact pb
        · rw [r2 h]; exact pa
      have plk : ∀ {y y' : VX}, PG y → Lk r y y' → PG y' := fun h hl => by
        rcases hl with e | ⟨_, e⟩
        · rw [e]; exact h
        · rw [e]; exact pr
      refine ⟨r, r1, r2, fun W hW q x' y' lx ly hrow => ?_, fun W hW A c' hrow => ?_, fun W hW A c' hrow => ?_, fun W hW A c' hrow => ?_, fun W hW A c' hrow => ?_, fun W hW A c' hrow => ?_⟩
      · have := ap_23 (HF.below hW) (c := 2) (x := x') (y := (false, [y'])) hrow (ag2 (plk pa lx) (plk pb ly)) (by kernel_rfl); rw [lk_same r1 r2 lx ly] at this; exact this
      · have e : ((false, [VX.num (1 + ((n % N : Nat) : Int)) 0]) :: l.map fun x => (false, [x])).length = N + 1 := by simp; omega
        rw [← e] at hrow ⊢
        have hag : AG ((false, [VX.num (1 + ((n % N : Nat) : Int)) 0]) :: l.map fun x => (false, [x])) := ag_ones (l := .num (1 + ((n % N : Nat) : Int)) 0 :: l) (by simp; omega) fun y hy => by
          rcases List.mem_cons.1 hy with rfl | hy
          · exact pn _ (by omega) (by omega)
          · exact hpg y hy
        have htk : takesB 25 ((false, [VX.num (1 + ((n % N : Nat) : Int)) 0]) :: l.map fun x => (false, [x])) = true := by
          rw [takes_args (k := 25) (n := 25) rfl (show fnTab[25]? = some _ from rfl) (by rw [e]; show (2 : Int) ≤ ((N + 1 : Nat) : Int); omega) (by rw [e]; show ((N + 1 : Nat) : Int) ≤ 9223372036854775807; omega)]; rfl
        have := ap_25 (HF.below hW) (c := c') (x := .num (1 + ((n % N : Nat) : Int)) 0) trivial (r := l.map fun x => (false, [x])) hrow hag htk; rw [choose_at hx] at this; exact this
      · have := ap_24 (HF.below hW) (c := c') (l := l) (y := .num (((n % N : Nat) : Int) + 1) 0) trivial hrow (ag_of (by simp) (by
          intro q hq; simp only [List.mem_cons, List.not_mem_nil, or_false] at hq
          rcases hq with rfl | rfl
          · exact ⟨by show l.length ≤ _; omega, hpg⟩
          · exact ⟨by simp, fun y hy => by simp at hy; subst hy; exact pn _ (by omega) (by omega)⟩)) (by kernel_rfl)
        rw [index_at hx] at this; exact this
      · have := ap_10 (HF.below hW) (c := c') (x := .bool true) (r := [(false, [a]), (false, [b])]) hrow (ag3 (pt true) pa pb) (.inr rfl) (by kernel_rfl); exact this
      · have := ap_10 (HF.below hW) (c := c') (x := .bool false) (r := [(false, [a]), (false, [b])]) hrow (ag3 (pt false) pa pb) (.inr rfl) (by kernel_rfl); exact this
      · have := ap_25 (HF.below hW) (c := c') (x := .num 0 0) trivial (r := [(false, [a])]) hrow (ag2 (pn 0 (by decide) (by decide)) pa) (by kernel_rfl); rw [show chooseX (.num 0 0) [(false, [a])] = .err 15 from by kernel_rfl] at this; exact this
end Go.Proofs.YtngkolcpbgibcaaGreatDoor
namespace Go.Proofs.YtngkolcpbgibcaaGreatDoor
open Go.ChangeShapes Go.WideShapes Go.RowKit Go.Joins
section
variable {H : Type} {enc : TypeId × Value → H} {w : World} {spare : Nat → Bool} {held : Bool}
set_option maxRecDepth 100000 in
theorem pval_cells {b0 m : Nat} {c0 c1 c2 c3 c4 c5 : Value} {x : DataW H × List MemPlace} (h : DataW.trod enc Tryz.prog w b0 spare held m 32 [c0, c1, c2, c3, c4, c5] = some x) :
    ∃ r : RW, [c0, c1, c2, c3, c4, c5] = rcs r ∧ (Lit.int .i64 r.2.1).wf = true := by
  obtain ⟨xs, n, rfl, -, -, hl, hf⟩ := DataW.trod_struct Tryz.underlying32 h
  match xs, hl with
  | [x0, x1, x2, x3, x4], _ =>
    have g0 : DataW.trod enc Tryz.prog w b0 spare held n 3 [c0] = some x0 := hf 0 _ rfl; have g1 : DataW.trod enc Tryz.prog w b0 spare held n 30 [c1, c2] = some x1 := hf 1 _ rfl; have g2 : DataW.trod enc Tryz.prog w b0 spare held n 9 [c3] = some x2 := hf 2 _ rfl; have g3 : DataW.trod enc Tryz.prog w b0 spare held n 4 [c4] = some x3 := hf 3 _ rfl; have g4 : DataW.trod enc Tryz.prog w b0 spare held n 3 [c5] = some x4 := hf 4 _ rfl; obtain ⟨ys, n', rfl, -, -, hl', hf'⟩ := DataW.trod_struct Tryz.underlying30 g1
    match ys, hl' with
    | [y0, y1], _ =>
      have k0 : DataW.trod enc Tryz.prog w b0 spare held n' 2 [c1] = some y0 := hf' 0 _ rfl; have k1 : DataW.trod enc Tryz.prog w b0 spare held n' 3 [c2] = some y1 := hf' 1 _ rfl; obtain ⟨k, e0, -, -⟩ := DataW.trod_int Tryz.underlying3 g0; obtain ⟨m, e1, -, hm⟩ := DataW.trod_int Tryz.underlying2 k0; obtain ⟨s, e2, -, -⟩ := DataW.trod_int Tryz.underlying3 k1; obtain ⟨t, e3, -, -⟩ := DataW.trod_string Tryz.underlying9 g2; obtain ⟨b, e4, -⟩ := DataW.trod_bool Tryz.underlying4 g3; obtain ⟨e, e5, -, -⟩ := DataW.trod_int Tryz.underlying3 g4; injection e0 with e0; injection e1 with e1; injection e2 with e2; injection e3 with e3; injection e4 with e4; injection e5 with e5; subst e0 e1 e2 e3 e4 e5; exact ⟨(k, m, s, t, b, e), rfl, hm⟩
set_option maxRecDepth 100000 in
theorem vals_open {fuel : Nat} {v : Value} {x : DataW H × List MemPlace} (h : DataW.trod enc Tryz.prog w 0 spare held fuel 53 [v] = some x) :
    ∃ (A : Option Addr) (n c : Nat) (R : List RW), v = .slice A n c ∧ R.length = n ∧ (∀ r ∈ R, (Lit.int .i64 r.2.1).wf = true) ∧
      (0 < n → ∃ aa, A = some aa ∧ aa.block < w.heap.size ∧ ∀ (i : Nat) (r : RW), R[i]? = some r → ∀ (j : Nat) (u : Value), (rcs r)[j]? = some u → w.cell? (aa.add (i * 6 + j)) = some u) := by
  have h6 : Tryz.prog.cellsOf 32 = 6 := by kernel_rfl
  rcases DataW.trod_slice Tryz.underlying53 h with ⟨hcs, -⟩ | ⟨a, len, cap, elems, rest, n2, hn2, hcs, -, -, hlc, -, hel, hall, -, -⟩
  · injection hcs with hcs; subst hcs; exact ⟨none, 0, 0, [], rfl, rfl, by simp, fun h => by omega⟩
  · injection hcs with hcs; subst hcs; rw [h6] at hall
    have hkey : ∀ i, i < len → ∃ r : RW, (Lit.int .i64 r.2.1).wf = true ∧ ∀ j u, (rcs r)[j]? = some u → w.cell? (a.add (i * 6 + j)) = some u := fun i hi => by
      have h1 := hall i hi; rw [List.getElem?_eq_getElem (by omega)] at h1; obtain ⟨cs', q1, q2⟩ := Option.bind_eq_some_iff.1 h1; obtain ⟨_, hl2, hcell⟩ := World.cells?_some q1
      match cs', hl2 with
      | [c0, c1, c2, c3, c4, c5], hl2 =>
        obtain ⟨r, hr, hm⟩ := pval_cells q2; refine ⟨r, hm, fun j u hu => ?_⟩; rw [← hr] at hu; have hj : j < 6 := (List.getElem?_eq_some_iff.1 hu).1; have := hcell j hj; rw [add_add, hu] at this; exact this
    obtain ⟨F, hF⟩ := Go.Deep.choose_lt (α := RW) hkey
    have hget : ∀ (i : Nat) (r : RW), ((List.range len).map F)[i]? = some r → i < len ∧ r = F i := fun i r hi => by
      rw [List.getElem?_map] at hi; obtain ⟨j, hj, rfl⟩ := Option.map_eq_some_iff.1 hi; have hlt : i < len := by simpa using (List.getElem?_eq_some_iff.1 hj).1
      rw [List.getElem?_range hlt] at hj; injection hj with hj; subst hj; exact ⟨hlt, rfl⟩
    refine ⟨some a, len, cap, (List.range len).map F, rfl, by simp, fun r hr => ?_, fun hn => ⟨a, rfl, ?_, fun i r hi => ?_⟩⟩
    · obtain ⟨i, hi⟩ := List.getElem?_of_mem hr; obtain ⟨h1, rfl⟩ := hget i r hi; exact (hF i h1).1
    · have := World.block_lt_of_cell? w _ ((hF 0 hn).2 0 _ rfl)
      rwa [add_block] at this
    · obtain ⟨h1, rfl⟩ := hget i r hi; exact (hF i h1).2
end
end Go.Proofs.YtngkolcpbgibcaaGreatDoor
