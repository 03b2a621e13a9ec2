/- bytes.Clone, le.put, cashbookref7.PutLow by their contracts. Condition: the bytes read as such, and are no more than a thousand. -/
/- le.Put16, le.Put64 by their contracts. Condition: the bytes read as such, and are no more than a thousand. -/
/- A tree in tokens, plainly; the way through a tree, each node behind its Kids. No program, no condition. -/
/- le.Bytes by its contract. Condition: the bytes read as such. -/
import Derived.Test.YtlaiocdnddnnaaaGreatDoorPut
import Derived.Test.YtlaiocdnddnnaaaGreatDoorNx
import Derived.Test.YtlaiocdnddnnaaaGreatDoorPut2
import Derived.Test.YtlaiocdnddnnaaaGreatDoorCutS
set_option linter.unusedVariables false
set_option linter.unusedSimpArgs false
namespace Go.Proofs.YtlaiocdnddnnaaaGreatDoor
open Go.RowKit
def lzs (n : Nat) : Array Value := ((List.replicate n (0 : UInt8)).map bv).toArray
theorem lmade_one' (x : Value) (n : Nat) : madeCells #[x] (n * 1) = (List.replicate n x).toArray := by
  refine Array.toList_inj.1 (List.ext_getElem? fun i => ?_); simp only [madeCells, Nat.mul_one, List.size_toArray, List.length_cons, List.length_nil, Nat.zero_add, Nat.mod_one, Array.toList_map, List.getElem?_map]; simp only [Array.toList_range, List.getElem?_replicate]
  by_cases h : i < n <;> simp [h]
theorem lrun_make_room (n s : Nat) (hn : n + s ≤ 1000000) (W : World) : (Instr.makeSlice 35 (.int .i64 0) (.int .i64 ((n : Int) + (s : Int)))).run Tryz.prog W = .ok (.slice (some ⟨W.heap.size, 0, none⟩) 0 (n + s)) (W.alloc (.cells (lzs (n + s)) 5)) := by
  obtain ⟨i, hi, h0, h1, h2⟩ := bytesRow.info; have h := run_make (P := Tryz.prog) W 35 5 i _ bytesRow.under hi h0 .i64 .i64 0 ((n + s : Nat) : Int) (by omega) (by omega) (by rw [h2]; omega) (by omega); rw [show ((n : Int) + (s : Int)) = ((n + s : Nat) : Int) by omega, h, h1, Int.toNat_natCast]
  have e : madeCells (Value.int .u8 0).cells ((n + s) * 1) = lzs (n + s) := by
    show madeCells #[Value.int .u8 0] ((n + s) * 1) = _
    rw [lmade_one', lzs, List.map_replicate]; rfl
  rw [e]; rfl
theorem lzs_size (n : Nat) : (lzs n).size = n := by simp [lzs]
theorem lclone_any {w : World} {B n c : Nat} {A : Option Addr} {l : List UInt8} (h : Rd w B 1 A n (l.map bv)) (hB : B ≤ w.heap.size) (hn : n ≤ 140737488355328) :
    Calls Tryz.prog 75 #[.slice A n c] w fun e w' => ∃ v', e = .returned v' ∧ w'.ownsRow w.heap.size 5 1 v' n (l.map bv) ∧ Below w.heap.size w w' := by
  have he := fun W => Lib.run_eql_slice_nil (P := Tryz.prog) W 35 5 A n c 0 0 Tryz.underlying35
  cases A with
  | none =>
    have hn0 : n = 0 := by
      rcases Nat.eq_zero_or_pos n with h0 | h0
      · exact h0
      · obtain ⟨a, ha, _⟩ := h.at_ h0; cases ha
    subst hn0; have hl : l = [] := List.eq_nil_of_length_eq_zero h.blen; subst hl; go_enter Tryz.func75, Tryz.ntmps75; go_wp2; go_ret; exact ⟨_, rfl, World.ownsRow_nil _ _ _ _, Below.refl _ _⟩
  | some a =>
    go_enter Tryz.func75, Tryz.ntmps75
    go_wp2_with (at_builtin; refine wpList_app bytesRow rfl (.tmp 5) (.tmp 6) rfl rfl rfl (World.ownsRow_made (base := w.heap.size) (size := 1) w #[] 0 (Nat.le_refl _) (by simp [maxLen]) (by simp)) (h.belowMono ((Below.refl w.heap.size w).alloc (Nat.le_refl _) _) hB) (bv_one _) ?_ ?_ ?_ ?_)
    · unfold maxLen; omega
    · omega
    · simp
    · intro v' w' ho _ hbel; go_wp2; go_ret; exact ⟨v', rfl, by simpa using ho, ((Below.refl _ _).alloc (Nat.le_refl _) _).trans hbel⟩
def lowB (v : Nat) : Nat → List UInt8
  | 0 => []
  | k + 1 => lowB v k ++ [UInt8.ofNat (v / 256 ^ k)]
theorem lowB_len (v k : Nat) : (lowB v k).length = k := by
  induction k with
  | zero => rfl
  | succ k ih => simp [lowB, ih]
theorem bv_ofNat (x : Nat) : bv (UInt8.ofNat x) = .int .u8 ((x : Int) % 256) := by
  unfold bv; rw [UInt8.toNat_ofNat']; simp
set_option maxHeartbeats 1000000 in
theorem lput_any {w : World} {B n c v s : Nat} {A : Option Addr} {l : List UInt8} (h : Rd w B 1 A n (l.map bv)) (hB : B ≤ w.heap.size) (hn : n ≤ 1000) (hv : v < 18446744073709551616) (hs : s ≤ 8) :
    Calls Tryz.prog 76 #[.slice A n c, .int .u64 v, .int .i64 s] w fun e w' => ∃ v', e = .returned v' ∧ w'.ownsRow w.heap.size 5 1 v' (n + s) ((l ++ lowB v s).map bv) ∧ Below w.heap.size w w' := by
  have hmk := lrun_make_room n s (by omega); have hm := World.ownsRow_made (base := w.heap.size) (size := 1) (e := 5) w (lzs (n + s)) (n + s) (Nat.le_refl _) (by unfold maxLen; omega) (by rw [lzs_size]; omega); have hr1 := h.belowMono ((Below.refl w.heap.size w).alloc (Nat.le_refl _) (.cells (lzs (n + s)) 5)) hB; go_enter Tryz.func76, Tryz.ntmps76
  go_wp2_with (at_builtin; refine wpList_app bytesRow rfl (.tmp 13) (.tmp 14) rfl rfl rfl hm hr1 (bv_one _) ?_ ?_ ?_ ?_)
  · unfold maxLen; omega
  · omega
  · simp
  intro v1 w1 o1 _ b1; have b1' := ((Below.refl w.heap.size w).alloc (Nat.le_refl _) (.cells (lzs (n + s)) 5)).trans b1
  try simp only [Nat.zero_add, List.nil_append] at o1
  clear hmk hm hr1 b1; go_wp2
  go_loopw [1, 7, 17] (fun nv out i wr => ∃ (k q : Nat) (L : List UInt8), k ≤ s ∧ i = .int .i64 k ∧ nv = .int .u64 q ∧ q ≤ v ∧ wr.ownsRow w.heap.size 5 1 out (n + k) (L.map bv) ∧ Below w.heap.size w wr ∧ Hid (q = v / 256 ^ k) ∧ Hid (L = l ++ lowB v k)) (fun _ _ i _ => s - (intOf i).toNat)
  case atStart => exact ⟨0, v, l, Nat.zero_le _, rfl, rfl, Nat.le_refl _, o1, b1', Lib.hid (by simp), Lib.hid (by simp [lowB])⟩
  case round =>
    obtain ⟨k, q, L, hk, rfl, rfl, hq, ho, hbel, HQ, HL⟩ := hrel; have hsz := hbel.size
    by_cases hks : k < s
    · have hks' : (k : Int) < (s : Int) := by omega
      go_wp2_with (at_builtin; refine wpList_app bytesRow rfl (.tmp 19) (.tmp 22) rfl rfl rfl (ho.alloc _) (Rd.fresh _ _ 1 1 _ rfl) ?_ ?_ ?_ ?_ ?_)
      · intro u hu; simp at hu; subst hu; rfl
      · unfold maxLen; omega
      · omega
      · simp; omega
      intro v2 w2 o2 _ b2; have b2' := hbel.trans (((Below.refl w.heap.size wr).alloc hsz _).trans b2); have HQ2 := Lib.hid (show q / 256 = v / 256 ^ (k + 1) by rw [HQ.out, Nat.pow_succ, Nat.div_div_eq_div_mul]); have HL2 : Hid (L ++ [UInt8.ofNat q] = l ++ lowB v (k + 1)) := Lib.hid (by rw [HL.out, HQ.out, lowB, List.append_assoc]); have hqv : q / 256 ≤ v := by omega
      have o3 : w2.ownsRow w.heap.size 5 1 v2 (n + (k + 1)) ((L ++ [UInt8.ofNat q]).map bv) := by
        rw [List.map_append, List.map_cons, List.map_nil, bv_ofNat]; exact o2
      clear o2 b2 ho; go_wp2
      go_roundw
      case rel => exact ⟨k + 1, q / 256, _, by omega, by go_num, by simp, hqv, o3, b2', HQ2, HL2⟩
      case measure => simp [intOf]; omega
    · obtain rfl : k = s := by omega
      have hks' : ¬ (k : Int) < (k : Int) := by omega
      go_wp2; go_ret; rw [HL.out, List.map_append] at ho; exact ⟨_, rfl, ho, hbel⟩
end Go.Proofs.YtlaiocdnddnnaaaGreatDoor
namespace Go.Proofs.YtlaiocdnddnnaaaGreatDoor
open Go.RowKit
def lputE (k : Int) (s : Nat) : Int := if 0 ≤ k ∧ k < ((256 ^ s : Nat) : Int) then 0 else 1
def lputL (l : List UInt8) (k : Int) (s : Nat) : List UInt8 := if 0 ≤ k ∧ k < ((256 ^ s : Nat) : Int) then l ++ lowB k.toNat s else l
theorem lput16_any {w : World} {B n c : Nat} {k : Int} {A : Option Addr} {l : List UInt8} (h : Rd w B 1 A n (l.map bv)) (hB : B ≤ w.heap.size) (hn : n ≤ 1000) :
    Calls Tryz.prog 43 #[.slice A n c, .int .i64 k] w fun e w' => ∃ v', e = .returned (.tuple #[v', .int .i64 (lputE k 2)]) ∧ w'.ownsRow w.heap.size 5 1 v' (lputL l k 2).length ((lputL l k 2).map bv) ∧ Below w.heap.size w w' := by
  have hl := Lib.hid h.blen
  by_cases h0 : k < 0
  · have HF := Lib.hid (show lputE k 2 = 1 ∧ lputL l k 2 = l by unfold lputE lputL; rw [if_neg (by omega), if_neg (by omega)]; exact ⟨rfl, rfl⟩); go_enter Tryz.func43, Tryz.ntmps43
    go_wp2_with fail
    refine (lclone_any h hB (by omega)).mono ?_; rintro e w1 ⟨v', rfl, ho, hb⟩; go_wp2
    go_ret2
    rw [HF.out.1, HF.out.2, hl.out]; exact ⟨_, rfl, ho, hb⟩
  · by_cases h1 : 65535 < k
    · have HF := Lib.hid (show lputE k 2 = 1 ∧ lputL l k 2 = l by unfold lputE lputL; rw [if_neg (by omega), if_neg (by omega)]; exact ⟨rfl, rfl⟩); go_enter Tryz.func43, Tryz.ntmps43
      go_wp2_with fail
      refine (lclone_any h hB (by omega)).mono ?_; rintro e w1 ⟨v', rfl, ho, hb⟩; go_wp2
      go_ret2
      rw [HF.out.1, HF.out.2, hl.out]; exact ⟨_, rfl, ho, hb⟩
    · obtain ⟨q, rfl⟩ := Int.eq_ofNat_of_zero_le (show 0 ≤ k by omega); have HF := Lib.hid (show lputE q 2 = 0 ∧ lputL l q 2 = l ++ lowB q 2 by unfold lputE lputL; rw [if_pos (by omega), if_pos (by omega)]; exact ⟨rfl, by simp⟩); go_enter Tryz.func43, Tryz.ntmps43
      go_wp2_with fail
      refine (lput_any (v := q) (s := 2) h hB hn (by omega) (by omega)).mono ?_; rintro e w1 ⟨v', rfl, ho, hb⟩; go_wp2
      go_ret2
      rw [HF.out.1, HF.out.2, List.length_append, lowB_len, hl.out]; exact ⟨_, rfl, ho, hb⟩
def two64 (k : Int) : Nat := (k % 18446744073709551616).toNat
theorem two64_wrap (k : Int) : IntKind.u64.wrap k = (two64 k : Int) := by
  have e : IntKind.u64.wrap k = k % 18446744073709551616 := by rw [IntKind.wrap_u64]
  have h0 := Int.emod_nonneg k (show (18446744073709551616 : Int) ≠ 0 by omega); rw [e, two64]; omega
theorem two64_lt (k : Int) : two64 k < 18446744073709551616 := by
  have h1 := Int.emod_lt_of_pos k (show (0 : Int) < 18446744073709551616 by omega); unfold two64; omega
theorem put64_any {w : World} {B n c : Nat} {k : Int} {A : Option Addr} {l : List UInt8} (h : Rd w B 1 A n (l.map bv)) (hB : B ≤ w.heap.size) (hn : n ≤ 1000) :
    Calls Tryz.prog 68 #[.slice A n c, .int .i64 k] w fun e w' => ∃ v', e = .returned v' ∧ w'.ownsRow w.heap.size 5 1 v' (n + 8) ((l ++ lowB (two64 k) 8).map bv) ∧ Below w.heap.size w w' := by
  have hw := two64_wrap k; have hlt := two64_lt k; generalize two64 k = v at *; go_enter Tryz.func68, Tryz.ntmps68
  go_wp2_with fail
  refine (lput_any (v := v) (s := 8) h hB hn hlt (by omega)).mono ?_; rintro e w1 ⟨v', rfl, ho, hb⟩; go_wp2; go_ret; exact ⟨_, rfl, ho, hb⟩
end Go.Proofs.YtlaiocdnddnnaaaGreatDoor
namespace Go.Proofs.YtlaiocdnddnnaaaGreatDoor

def pbit (b : Bool) (n : Int) : Int := if b = true then n else 0
/-- A Ref's bytes behind others. -/
def refL (l : List UInt8) (r c : Int) (x y : Bool) : List UInt8 := lputL l r 2 ++ [by8 c, by8 (pbit x 1 + pbit y 2)]
def markP (k : Int) : Int := if k = 2 then 36 else if k = 3 then 37 else if k = 4 then 58 else 59
def hasSh (k : Int) : Bool := decide (k = 4) || decide (k = 5)
def hasAr (k : Int) : Bool := decide (k = 3) || decide (k = 5)
def placeL (p : Pay) : List UInt8 :=
  if hasAr p.kind = true then refL (refL (by8 (markP p.kind) :: if hasSh p.kind = true then [by8 p.sheet] else []) p.r1 p.c1 p.x1 p.y1) p.r2 p.c2 p.x2 p.y2 else refL (by8 (markP p.kind) :: if hasSh p.kind = true then [by8 p.sheet] else []) p.r1 p.c1 p.x1 p.y1
def constL (p : Pay) : List UInt8 :=
  if p.vk = 1 then 31 :: lowB (two64 p.vm) 8 ++ [by8 p.vs] else if p.vk = 2 then putL [23] p.vt.data.toList else if p.vk = 3 then [29, by8 (pbit p.vb 1)] else [28, by8 p.ve]
def unL (o : Int) : List UInt8 := if o = 1 then [19] else if o = 2 then [18] else [20]
/-- A node's own token; it has n Kids. -/
def tokL (p : Pay) (n : Nat) : List UInt8 :=
  if p.kind = 1 then constL p else if p.kind = 2 ∨ p.kind = 3 ∨ p.kind = 4 ∨ p.kind = 5 then placeL p else if p.kind = 6 then lputL [35] p.op 2
  else if p.kind = 7 then unL p.op else if p.kind = 8 then [by8 (2 + p.op)] else if p.kind = 9 then [34, by8 n, by8 p.op] else [21]

mutual
/-- The nodes, each behind its Kids. -/
def poT : Tr → List (Pay × Nat)
  | .mk p ks => poL ks ++ [(p, ks.length)]
def poL : List Tr → List (Pay × Nat)
  | [] => []
  | t :: ts => poT t ++ poL ts
end
mutual
theorem po_lenT : ∀ t : Tr, (poT t).length = cntT t
  | .mk _ ks => by
    have := po_lenL ks
    simp only [poT, cntT, List.length_append, List.length_cons, List.length_nil]
    omega
theorem po_lenL : ∀ l : List Tr, (poL l).length = cntL l
  | [] => rfl
  | t :: ts => by
    have h1 := po_lenT t
    have h2 := po_lenL ts
    simp only [poL, cntL, List.length_append]
    omega
end
theorem po_app : ∀ l m : List Tr, poL (l ++ m) = poL l ++ poL m
  | [], m => rfl
  | t :: l, m => by simp only [List.cons_append, poL, po_app l m, List.append_assoc]
def enT (t : Tr) : List UInt8 := (poT t).flatMap fun q => tokL q.1 q.2

/-- A step of a way: a node, how many of its Kids have been gone to. -/
structure Wst where
  p : Pay
  ks : List Tr
  gone : Nat
/-- What is still to come, the top first. -/
def remS : List Wst → List (Pay × Nat)
  | [] => []
  | s :: r => poL (s.ks.drop s.gone) ++ (s.p, s.ks.length) :: remS r
theorem rem_down {s : Wst} {r : List Wst} {t : Tr} (h : s.ks[s.gone]? = some t) : remS (⟨t.pay, t.kids, 0⟩ :: { s with gone := s.gone + 1 } :: r) = remS (s :: r) := by
  obtain ⟨hl, he⟩ := List.getElem?_eq_some_iff.1 h
  cases t with
  | mk p ks =>
    have hd : s.ks.drop s.gone = .mk p ks :: s.ks.drop (s.gone + 1) := by rw [List.drop_eq_getElem_cons hl, he]
    simp only [remS, Tr.pay, Tr.kids, List.drop_zero, hd, poL, poT, List.append_assoc, List.cons_append, List.nil_append]
theorem rem_up {s : Wst} {r : List Wst} (h : s.ks.length ≤ s.gone) : remS (s :: r) = (s.p, s.ks.length) :: remS r := by
  simp only [remS, List.drop_eq_nil_of_le h, poL, List.nil_append]
theorem rem_start (p : Pay) (ks : List Tr) : remS [⟨p, ks, 0⟩] = poT (.mk p ks) := by simp [remS, poT]
end Go.Proofs.YtlaiocdnddnnaaaGreatDoor
namespace Go.Proofs.YtlaiocdnddnnaaaGreatDoor
open Go.RowKit
theorem cells_after {W w2 : World} {g g' : Nat} {T T' : TypeId} {x0 x1 y0 y1 : Value} (k : Bk W g T #[x0, x1]) (k' : Bk W g' T' #[y0, y1]) (hb : Below W.drew.heap.size W.drew w2) :
    w2.cell? ⟨g, 0, none⟩ = some x0 ∧ w2.cell? ⟨g, 1, none⟩ = some x1 ∧ w2.cell? ⟨g', 0, none⟩ = some y0 ∧ w2.cell? ⟨g', 1, none⟩ = some y1 ∧ w2.frozen? ⟨g', 0, none⟩ = false ∧ w2.frozen? ⟨g', 1, none⟩ = false := by
  have q : Bk w2 g T #[x0, x1] := (show Bk W.drew g T #[x0, x1] from k).below hb k.lt; have q' : Bk w2 g' T' #[y0, y1] := (show Bk W.drew g' T' #[y0, y1] from k').below hb k'.lt; exact ⟨q.cell 0, q.cell 1, q'.cell 0, q'.cell 1, q'.frozen 0, q'.frozen 1⟩
theorem own_sets {w2 : World} {base g n : Nat} {T : TypeId} {v u0 u1 : Value} {xs : List Value} (ho : w2.ownsRow base T 1 v n xs) (hg : g < base) : ((w2.setCell ⟨g, 0, none⟩ u0).setCell ⟨g, 1, none⟩ u1).ownsRow base T 1 v n xs :=
  (((Keep.refl (fun i => i = g) w2).setCell (p := ⟨g, 0, none⟩) (fun _ => rfl) u0).setCell (p := ⟨g, 1, none⟩) (fun _ => rfl) u1).own ho fun i hi e => by have := (ho.lt i hi).1; omega
set_option maxHeartbeats 1000000 in
theorem bytes_any {w : World} {B n c : Nat} {at_ k : Int} {A : Option Addr} {l : List UInt8} (h : Rd w B 1 A n (l.map bv)) (hnc : n ≤ c) (hn : n ≤ 1000000000000) (hB : B ≤ w.heap.size) :
    Calls Tryz.prog 104 #[.agg #[.slice A n c, .int .i64 at_], .int .i64 k] w fun e w' => ∃ v', e = .returned (.tuple #[v', .agg #[.slice A n c, .int .i64 (tkAt at_ k n)], .int .i64 (tkE at_ k n)]) ∧
      w'.ownsRow w.heap.size 5 1 v' (tkL l at_ k).length ((tkL l at_ k).map bv) ∧ Below w.heap.size w w' := by
  have hlen : (tkL l at_ k).length ≤ n := by
    unfold tkL
    split
    · rw [List.length_take, List.length_drop, h.blen]; omega
    · exact Nat.zero_le _
  have hT := take_any (k := k) (at_ := at_) (h.belowMono (two_below w (.cells #[.slice A n c, .int .i64 at_] 82) (.cells #[.slice none 0 0, .int .i64 0] 82)) hB) hnc (by omega); generalize tkL l at_ k = L at *; generalize tkAt at_ k n = at1 at *; generalize tkE at_ k n = e1 at *; have HT := Lib.hid hT; clear hT; go_enter Tryz.func104, Tryz.ntmps104
  go_wp2_with fail
  refine HT.out.mono ?_; rintro e w1 ⟨A', c', rfl, hc', hr, hb1⟩; obtain ⟨k1, k2, hb', s1⟩ := two_boxes hb1; have hr1 := hr.belowMono hb1 (by simp; omega); go_wp2; have k2' := k2.alloc (.cells #[.slice A n c, .int .i64 at1] 82); have k3 := Bk.new w1 82 #[.slice A n c, .int .i64 at1]; have hr2 := (hr1.alloc (by omega) (.cells #[.slice A n c, .int .i64 at1] 82)).drew; have hbW := hb'.alloc hb'.size (.cells #[.slice A n c, .int .i64 at1] 82); generalize w1.alloc (.cells #[.slice A n c, .int .i64 at1] 82) = W at *; have f0 := k3.cell 0; have f1 := k3.cell 1; have d0 := k2'.cell 0; have d1 := k2'.cell 1; have z0 := k2'.frozen 0; have z1 := k2'.frozen 1; have sW := hbW.size; have s3 := k3.lt
  go_region_with ((go_at_call 75; refine (lclone_any hr2 (by simp; omega) (by omega)).mono ?_; rintro e w2 ⟨v', rfl, ho, hb2⟩; obtain ⟨x0, x1, y0, y1, q0, q1⟩ := cells_after k3 k2' hb2))
  all_goals
    have ho' := own_sets (u0 := .slice A n c) (u1 := .int .i64 at1) ho (show w.heap.size + 1 < W.drew.heap.size by simp; omega); have hb3 := hbW.drew.trans (hb2.mono (by simp; omega)); clear ho hb2; go_wp2; refine bodyPost_ret (v := .tuple #[v', .agg #[.slice A n c, .int .i64 at1], .int .i64 e1]) (by simp [results, Tryz.results104, go_sem, x0, x1, y0, y1]) rfl ⟨_, rfl, own_mono ho' (by simp; omega), (hb3.setCell (by simp) _).setCell (by simp) _⟩
end Go.Proofs.YtlaiocdnddnnaaaGreatDoor
