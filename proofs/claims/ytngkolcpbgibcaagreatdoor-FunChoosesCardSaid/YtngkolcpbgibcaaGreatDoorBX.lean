/- val.Compare of any two values that may be, and val.Same, by their contracts. Condition: the texts are not too long. -/
/- What functions are told of values, plainly: as numbers, as words, as truths; what a reckoning tells. No condition. -/
/- Boxes of a call's own, told as a list: made, read, written as wholes, without being looked into. No condition. -/
import Derived.Test.YtngkolcpbgibcaaGreatDoorV3
import Derived.Test.YtngkolcpbgibcaaGreatDoorD5
import Derived.Deep.MidRow
set_option linter.unusedVariables false
set_option linter.unusedSimpArgs false
namespace Go.Proofs.YtngkolcpbgibcaaGreatDoor
open Go.RowKit
def xval : VX → Value
  | .blank => .agg #[.int .i64 0, .int .i64 0, .int .i64 0, .string ⟨#[]⟩, .bool false, .int .i64 0]
  | .num m s => .agg #[.int .i64 1, .int .i64 m, .int .i64 (s : Nat), .string ⟨#[]⟩, .bool false, .int .i64 0]
  | .str t => .agg #[.int .i64 2, .int .i64 0, .int .i64 0, .string ⟨t.toArray⟩, .bool false, .int .i64 0]
  | .bool b => .agg #[.int .i64 3, .int .i64 0, .int .i64 0, .string ⟨#[]⟩, .bool b, .int .i64 0]
  | .err e => .agg #[.int .i64 4, .int .i64 0, .int .i64 0, .string ⟨#[]⟩, .bool false, .int .i64 e]
def shortX (n : Nat) : VX → Prop
  | .str t => t.length ≤ n
  | _ => True
theorem cmpx_any {w : World} {a b : VX} (ha : OkX a) (hb : OkX b) (sa : shortX 10000000 a) (sb : shortX 10000000 b) :
    Calls Tryz.prog 27 #[xval a, xval b] w fun x w' => x = .returned (.int .i64 (cmpX a b)) ∧ Below w.heap.size w w' := by
  have bs : ∀ l : List UInt8, (⟨l.toArray⟩ : ByteArray).size = l.length := fun l => by simp [ByteArray.size]
  cases a with
  | blank =>
    cases b with
    | blank =>
      exact compare_blank (fun W => filled_blank 0 _ _ _ _ _ (by decide)) (fun W => filled_blank 0 _ _ _ _ _ (by decide))
    | num m2 s2 =>
      exact compare_num (fun W => filled_blank 1 _ _ _ _ _ (by decide)) (fun W => filled_non 1 _ _ _ _ _ _ _ _ _ _ _ (by decide)) (fun W => compare_any (w := W) (show Gd 0 0 from ⟨by decide, by decide, by decide, .inl rfl⟩) hb)
    | str t2 =>
      exact compare_str (fun W => filled_blank 2 _ _ _ _ _ (by decide)) (fun W => filled_non 2 _ _ _ _ _ _ _ _ _ _ _ (by decide)) (fun W => compareTexts_any (w := W) ⟨(([] : List UInt8)).toArray⟩ ⟨(t2).toArray⟩ (by decide) (by rw [bs]; have : t2.length ≤ 10000000 := sb; omega))
    | bool b2 =>
      exact compare_bool (fun W => filled_blank 3 _ _ _ _ _ (by decide)) (fun W => filled_non 3 _ _ _ _ _ _ _ _ _ _ _ (by decide))
    | err e2 =>
      exact compare_kinds (fun W => filled_err _ _ _ _ _) (fun W => filled_non 4 _ _ _ _ _ _ _ _ _ _ _ (by decide)) (by decide)
  | num m1 s1 =>
    cases b with
    | blank =>
      exact compare_num (fun W => filled_non 1 _ _ _ _ _ _ _ _ _ _ _ (by decide)) (fun W => filled_blank 1 _ _ _ _ _ (by decide)) (fun W => compare_any (w := W) ha (show Gd 0 0 from ⟨by decide, by decide, by decide, .inl rfl⟩))
    | num m2 s2 =>
      exact compare_num (fun W => filled_non 1 _ _ _ _ _ _ _ _ _ _ _ (by decide)) (fun W => filled_non 1 _ _ _ _ _ _ _ _ _ _ _ (by decide)) (fun W => compare_any (w := W) ha hb)
    | str t2 =>
      exact compare_kinds (fun W => filled_non 1 _ _ _ _ _ _ _ _ _ _ _ (by decide)) (fun W => filled_non 2 _ _ _ _ _ _ _ _ _ _ _ (by decide)) (by decide)
    | bool b2 =>
      exact compare_kinds (fun W => filled_non 1 _ _ _ _ _ _ _ _ _ _ _ (by decide)) (fun W => filled_non 3 _ _ _ _ _ _ _ _ _ _ _ (by decide)) (by decide)
    | err e2 =>
      exact compare_kinds (fun W => filled_non 1 _ _ _ _ _ _ _ _ _ _ _ (by decide)) (fun W => filled_non 4 _ _ _ _ _ _ _ _ _ _ _ (by decide)) (by decide)
  | str t1 =>
    cases b with
    | blank =>
      exact compare_str (fun W => filled_non 2 _ _ _ _ _ _ _ _ _ _ _ (by decide)) (fun W => filled_blank 2 _ _ _ _ _ (by decide)) (fun W => compareTexts_any (w := W) ⟨(t1).toArray⟩ ⟨(([] : List UInt8)).toArray⟩ (by rw [bs]; have : t1.length ≤ 10000000 := sa; omega) (by decide))
    | num m2 s2 =>
      exact compare_kinds (fun W => filled_non 2 _ _ _ _ _ _ _ _ _ _ _ (by decide)) (fun W => filled_non 1 _ _ _ _ _ _ _ _ _ _ _ (by decide)) (by decide)
    | str t2 =>
      exact compare_str (fun W => filled_non 2 _ _ _ _ _ _ _ _ _ _ _ (by decide)) (fun W => filled_non 2 _ _ _ _ _ _ _ _ _ _ _ (by decide)) (fun W => compareTexts_any (w := W) ⟨(t1).toArray⟩ ⟨(t2).toArray⟩ (by rw [bs]; have : t1.length ≤ 10000000 := sa; omega) (by rw [bs]; have : t2.length ≤ 10000000 := sb; omega))
    | bool b2 =>
      exact compare_kinds (fun W => filled_non 2 _ _ _ _ _ _ _ _ _ _ _ (by decide)) (fun W => filled_non 3 _ _ _ _ _ _ _ _ _ _ _ (by decide)) (by decide)
    | err e2 =>
      exact compare_kinds (fun W => filled_non 2 _ _ _ _ _ _ _ _ _ _ _ (by decide)) (fun W => filled_non 4 _ _ _ _ _ _ _ _ _ _ _ (by decide)) (by decide)
  | bool b1 =>
    cases b with
    | blank =>
      exact compare_bool (fun W => filled_non 3 _ _ _ _ _ _ _ _ _ _ _ (by decide)) (fun W => filled_blank 3 _ _ _ _ _ (by decide))
    | num m2 s2 =>
      exact compare_kinds (fun W => filled_non 3 _ _ _ _ _ _ _ _ _ _ _ (by decide)) (fun W => filled_non 1 _ _ _ _ _ _ _ _ _ _ _ (by decide)) (by decide)
    | str t2 =>
      exact compare_kinds (fun W => filled_non 3 _ _ _ _ _ _ _ _ _ _ _ (by decide)) (fun W => filled_non 2 _ _ _ _ _ _ _ _ _ _ _ (by decide)) (by decide)
    | bool b2 =>
      exact compare_bool (fun W => filled_non 3 _ _ _ _ _ _ _ _ _ _ _ (by decide)) (fun W => filled_non 3 _ _ _ _ _ _ _ _ _ _ _ (by decide))
    | err e2 =>
      exact compare_kinds (fun W => filled_non 3 _ _ _ _ _ _ _ _ _ _ _ (by decide)) (fun W => filled_non 4 _ _ _ _ _ _ _ _ _ _ _ (by decide)) (by decide)
  | err e1 =>
    cases b with
    | blank =>
      exact compare_kinds (fun W => filled_non 4 _ _ _ _ _ _ _ _ _ _ _ (by decide)) (fun W => filled_err _ _ _ _ _) (by decide)
    | num m2 s2 =>
      exact compare_kinds (fun W => filled_non 4 _ _ _ _ _ _ _ _ _ _ _ (by decide)) (fun W => filled_non 1 _ _ _ _ _ _ _ _ _ _ _ (by decide)) (by decide)
    | str t2 =>
      exact compare_kinds (fun W => filled_non 4 _ _ _ _ _ _ _ _ _ _ _ (by decide)) (fun W => filled_non 2 _ _ _ _ _ _ _ _ _ _ _ (by decide)) (by decide)
    | bool b2 =>
      exact compare_kinds (fun W => filled_non 4 _ _ _ _ _ _ _ _ _ _ _ (by decide)) (fun W => filled_non 3 _ _ _ _ _ _ _ _ _ _ _ (by decide)) (by decide)
    | err e2 =>
      exact compare_err (fun W => filled_non 4 _ _ _ _ _ _ _ _ _ _ _ (by decide)) (fun W => filled_non 4 _ _ _ _ _ _ _ _ _ _ _ (by decide))
theorem toList_inj {s t : ByteArray} (h : s.toList = t.toList) : s = t := by
  rw [ByteArray.toList_eq, ByteArray.toList_eq] at h; exact ByteArray.ext (Array.toList_inj.1 h)
end Go.Proofs.YtngkolcpbgibcaaGreatDoor
namespace Go.Proofs.YtngkolcpbgibcaaGreatDoor
open Go.RowKit
def vc : VX → List Value
  | .blank => [.int .i64 0, .int .i64 0, .int .i64 0, .string ⟨#[]⟩, .bool false, .int .i64 0]
  | .num m s => [.int .i64 1, .int .i64 m, .int .i64 (s : Nat), .string ⟨#[]⟩, .bool false, .int .i64 0]
  | .str t => [.int .i64 2, .int .i64 0, .int .i64 0, .string ⟨t.toArray⟩, .bool false, .int .i64 0]
  | .bool b => [.int .i64 3, .int .i64 0, .int .i64 0, .string ⟨#[]⟩, .bool b, .int .i64 0]
  | .err e => [.int .i64 4, .int .i64 0, .int .i64 0, .string ⟨#[]⟩, .bool false, .int .i64 e]
theorem xval_vc (x : VX) : xval x = .agg (vc x).toArray := by cases x <;> rfl
theorem vc_len (x : VX) : (vc x).length = 6 := by cases x <;> rfl
theorem vc_kind (x : VX) : (vc x)[0]? = some (.int .i64 x.kind) := by cases x <;> rfl
theorem vc_one (x : VX) : ∀ u ∈ vc x, u.oneCell' = true := by
  cases x <;> intro u hu <;> simp only [vc, List.mem_cons, List.not_mem_nil, or_false] at hu <;> rcases hu with rfl | rfl | rfl | rfl | rfl | rfl <;> rfl
inductive NR where
  | ok (m : Int) (s : Nat)
  | no (x : VX)
def numX : VX → NR
  | .blank => .ok 0 0
  | .num m s => .ok m s
  | .str t => if (pD t).e = 0 then .ok (pD t).m (pD t).s else .no (.err 15)
  | .bool b => .ok (rk b) 0
  | .err e => .no (.err e)
def numV : NR → Value
  | .ok m s => .tuple #[.agg #[.int .i64 m, .int .i64 (s : Nat)], (.agg (vc .blank).toArray), .bool true]
  | .no x => .tuple #[.agg #[.int .i64 0, .int .i64 0], (.agg (vc x).toArray), .bool false]
inductive WR where
  | ok (l : List UInt8)
  | no (x : VX)
def wrdX : VX → WR
  | .blank => .ok []
  | .num m s => .ok (decTx m s)
  | .str t => .ok t
  | .bool b => .ok (trL b)
  | .err e => .no (.err e)
def wrdV : WR → Value
  | .ok l => .tuple #[sL l, (.agg (vc .blank).toArray), .bool true]
  | .no x => .tuple #[.string ⟨#[]⟩, (.agg (vc x).toArray), .bool false]
inductive TR where
  | ok (b : Bool)
  | no (x : VX)
def truX : VX → TR
  | .blank => .ok false
  | .num m _ => .ok (decide (m ≠ 0))
  | .str t => if t = yesL then .ok true else if t = noL then .ok false else .no (.err 15)
  | .bool b => .ok b
  | .err e => .no (.err e)
def truV : TR → Value
  | .ok b => .tuple #[.bool b, (.agg (vc .blank).toArray), .bool true]
  | .no x => .tuple #[.bool false, (.agg (vc x).toArray), .bool false]
def reckX (r : DR) : VX := if r.e = 0 then .num r.m r.s else if r.e = 9 then .err 7 else .err 36
def textX (l : List UInt8) : VX := if uE l = 0 then .str l else .err 15
theorem number_x {w : World} {x : VX} (hs : shortX 100000000 x) :
    Calls Tryz.prog 109 #[.agg (vc x).toArray] w fun e W => e = .returned (numV (numX x)) ∧ Below w.heap.size w W := by
  cases x with
  | blank => exact number_blank
  | num m s => exact number_num m s
  | str t =>
    have hl : t.length ≤ 100000000 := hs; have HP : ∀ W : World, ParseTo ⟨t.toArray⟩ W (pD t) := fun W => parse_l t hl
    by_cases h : (pD t).e = 0
    · rw [show numX (.str t) = .ok (pD t).m (pD t).s from if_pos h]; refine number_str (m := (pD t).m) (s := (pD t).s) fun W => ?_; have := HP W; unfold ParseTo at this; rw [dv_parts, h] at this; exact this
    · rw [show numX (.str t) = .no (.err 15) from if_neg h]; refine number_none (m := (pD t).m) (s := (pD t).s) (e := (pD t).e) (by omega) fun W => ?_; have := HP W; unfold ParseTo at this; rw [dv_parts] at this; exact this
  | bool b => exact number_bool b
  | err e => exact number_err e
theorem words_x {w : World} (HT : Tens w) {x : VX} (ho : OkX x) :
    Calls Tryz.prog 111 #[.agg (vc x).toArray] w fun e W => e = .returned (wrdV (wrdX x)) ∧ Below w.heap.size w W := by
  cases x with
  | blank => exact words_blank
  | num m s => exact words_num HT ho
  | str t => exact words_str _
  | bool b => exact words_bool b
  | err e => exact words_err e
theorem truth_x {w : World} {x : VX} :
    Calls Tryz.prog 110 #[.agg (vc x).toArray] w fun e W => e = .returned (truV (truX x)) ∧ Below w.heap.size w W := by
  cases x with
  | blank => exact truth_blank
  | num m s =>
    by_cases h : m = 0
    · subst h; exact truth_num0 _
    · have : truX (.num m s) = .ok true := by simp [truX, h]
      rw [this]; exact truth_numn m _ h
  | str t =>
    have hb : (⟨t.toArray⟩ : ByteArray).toList = t := by rw [ByteArray.toList_eq]
    by_cases h1 : t = yesL
    · rw [show truX (.str t) = .ok true from if_pos h1]; subst h1; exact truth_yes
    · by_cases h2 : t = noL
      · rw [show truX (.str t) = .ok false from (if_neg h1).trans (if_pos h2)]; subst h2; exact truth_no
      · rw [show truX (.str t) = .no (.err 15) from (if_neg h1).trans (if_neg h2)]; exact truth_none _ (by rw [hb, beq_eq_false_iff_ne]; exact h1) (by rw [hb, beq_eq_false_iff_ne]; exact h2)
  | bool b => exact truth_bool b
  | err e => exact truth_err e
end Go.Proofs.YtngkolcpbgibcaaGreatDoor
namespace Go.Proofs.YtngkolcpbgibcaaGreatDoor
open Go.RowKit
abbrev Bxs := List (Nat × TypeId × List Value)
structure BX (w : World) (bs : Bxs) (W : World) : Prop where
  bel : Below w.heap.size w W
  lo : ∀ b ∈ bs, w.heap.size ≤ b.1
  bk : ∀ b ∈ bs, Bk W b.1 b.2.1 b.2.2.toArray
  nd : (bs.map (·.1)).Nodup
section
variable {w W W' : World} {bs : Bxs} {g i : Nat} {ty : TypeId} {cs vs : List Value}
theorem BX.start (w : World) : BX w [] w := ⟨Below.refl _ _, by simp, by simp, by simp⟩
theorem BX.call (h : BX w bs W) (hb : Below W.heap.size W W') : BX w bs W' := ⟨h.bel.trans (hb.mono h.bel.size), h.lo, fun b hm => (h.bk b hm).below hb (h.bk b hm).lt, h.nd⟩
theorem BX.drew (h : BX w bs W) : BX w bs W.drew := ⟨h.bel.drew, h.lo, h.bk, h.nd⟩
theorem BX.made (h : BX w bs W) (ty : TypeId) (cs : List Value) : BX w ((W.heap.size, ty, cs) :: bs) (W.alloc (.cells cs.toArray ty)) := by
  refine ⟨h.bel.alloc h.bel.size _, fun b hb => ?_, fun b hb => ?_, ?_⟩
  · rcases List.mem_cons.1 hb with rfl | hb
    · exact h.bel.size
    · exact h.lo b hb
  · rcases List.mem_cons.1 hb with rfl | hb
    · exact Bk.new W ty cs.toArray
    · exact (h.bk b hb).alloc _
  · rw [List.map_cons, List.nodup_cons]; refine ⟨fun hm => ?_, h.nd⟩; obtain ⟨b, hb, e⟩ := List.mem_map.1 hm; have := (h.bk b hb).lt; omega
theorem BX.other (h : BX w bs W) (o : Obj) : BX w bs (W.alloc o) := h.call (bel0 W o)
theorem BX.get (h : BX w bs W) (hi : bs[i]? = some (g, ty, cs)) : Bk W g ty cs.toArray := h.bk _ (List.mem_of_getElem? hi)
theorem BX.cell (h : BX w bs W) (hi : bs[i]? = some (g, ty, cs)) (k : Nat) : W.cell? ⟨g, k, none⟩ = cs[k]? := by rw [(h.get hi).cell]; simp
theorem BX.frozen (h : BX w bs W) (hi : bs[i]? = some (g, ty, cs)) (k : Nat) : W.frozen? ⟨g, k, none⟩ = false := (h.get hi).frozen k
theorem BX.turn (h : BX w bs W) (hi : bs[i]? = some (g, ty, cs)) (hk : Bk W' g ty vs.toArray) (hK : Keep (fun j => j = g) W W') : BX w (bs.set i (g, ty, vs)) W' := by
  have hg := h.lo _ (List.mem_of_getElem? hi)
  have hmap : (bs.set i (g, ty, vs)).map (·.1) = bs.map (·.1) := by
    rw [List.map_set]; apply List.ext_getElem?; intro j; rw [List.getElem?_set, List.getElem?_map]
    split
    · subst_vars; rw [List.length_map, if_pos (List.getElem?_eq_some_iff.1 hi).1, hi]; rfl
    · rfl
  refine ⟨h.bel.trans (hK.below (B := w.heap.size) h.bel.size fun j hj e => by have : w.heap.size ≤ g := hg; omega), fun b hb => ?_, fun b hb => ?_, by rw [hmap]; exact h.nd⟩
  · rcases List.mem_or_eq_of_mem_set hb with hb | rfl
    · exact h.lo b hb
    · exact hg
  · obtain ⟨j, hj⟩ := List.getElem?_of_mem hb; rw [List.getElem?_set] at hj
    split at hj
    · split at hj
      · injection hj with hj; subst hj; exact hk
      · cases hj
    · rename_i hne
      refine hK.bk (h.bk b (List.mem_of_getElem? hj)) fun e => ?_; have h1 : (bs.map (·.1))[i]? = some g := by rw [List.getElem?_map, hi]; rfl
      have h2 : (bs.map (·.1))[j]? = some g := by rw [List.getElem?_map, hj, ← e]; rfl
      obtain ⟨l1, e1⟩ := List.getElem?_eq_some_iff.1 h1; obtain ⟨l2, e2⟩ := List.getElem?_eq_some_iff.1 h2; exact hne ((List.getElem_inj h.nd).1 (e1.trans e2.symm))
theorem BX.some_ {bs' : Bxs} (h : BX w bs W) (hs : bs'.Sublist bs) : BX w bs' W := ⟨h.bel, fun b hb => h.lo b (hs.subset hb), fun b hb => h.bk b (hs.subset hb), h.nd.sublist (hs.map _)⟩
end
theorem set_list {l m : List Value} {o : Nat} {v : Value} (h : o < l.length) : (l.set o v).take (o + 1) ++ m = l.take o ++ v :: m := by
  rw [List.take_set, List.take_succ_eq_append_getElem h, List.set_append_right _ _ (by rw [List.length_take]; omega)]; simp [Nat.min_eq_left (Nat.le_of_lt h)]
theorem setCells_size {g : Nat} : ∀ (l : List Value) (o : Nat) (W : World), (W.setCells g o l).heap.size = W.heap.size
  | [], _, _ => rfl
  | v :: l, o, W => by
    rw [World.setCells, setCells_size l (o + 1)]; simp [World.setCell]
theorem load_any {P : Program} (w : World) (q : Addr) (ty : TypeId) (cs : List Value) (d : TypeDesc) (hc : ∀ (j : Nat) (u : Value), cs[j]? = some u → w.cell? (q.add j) = some u)
    (hu : P.underlying ty = some d) (hd : d.isRow = true) (hi : (P.info? ty).map (·.size) = some cs.length) : (loadVar ty q).run P w = .ok (.agg cs.toArray) w := by
  have hl : (loadCells q cs.length).run P w = .ok cs.toArray w := run_loadCells_list (P := P) w q cs hc
  cases hq : P.info? ty with
  | none => simp [hq] at hi
  | some i =>
    have hs : i.size = cs.length := by simpa [hq] using hi
    have hagg : (isAgg ty).run P w = .ok true w := by
      unfold isAgg; rw [Sem.run_bind, run_underlying hu w]
      cases d <;> simp_all
    simp [loadVar, Sem.run_bind, hagg, sizeOf, typeInfo, hq, hs, hl]
theorem setCells_bk {g : Nat} {t : TypeId} : ∀ (l : List Value) (o : Nat) (cs : List Value) (W : World), Bk W g t cs.toArray → o + l.length ≤ cs.length → Bk (W.setCells g o l) g t (cs.take o ++ l ++ cs.drop (o + l.length)).toArray
  | [], o, cs, W, h, _ => by simpa [World.setCells] using h
  | v :: l, o, cs, W, h, hl => by
    simp only [List.length_cons] at hl; have h1 := h.set_ o v; rw [List.setIfInBounds_toArray] at h1; have h2 := setCells_bk l (o + 1) (cs.set o v) _ h1 (by rw [List.length_set]; omega); rw [World.setCells]
    have e : (cs.set o v).take (o + 1) ++ l ++ (cs.set o v).drop (o + 1 + l.length) = cs.take o ++ v :: l ++ cs.drop (o + (v :: l).length) := by
      rw [set_list (by omega), List.drop_set_of_lt (by omega), List.length_cons, show o + 1 + l.length = o + (l.length + 1) by omega]
    rw [e] at h2; exact h2
theorem setCells_keep {g : Nat} : ∀ (l : List Value) (o : Nat) (W : World), Keep (fun i => i = g) W (W.setCells g o l)
  | [], _, W => Keep.refl _ _
  | v :: l, o, W => by
    rw [World.setCells]; exact ((Keep.refl (fun i => i = g) W).setCell (p := ⟨g, o, none⟩) (fun _ => rfl) v).trans (setCells_keep l (o + 1) _) fun _ _ h => h
structure RowT (ty : TypeId) (n : Nat) : Prop where
  und : ∃ d, Tryz.prog.underlying ty = some d ∧ d.isRow = true
  size : (Tryz.prog.info? ty).map (·.size) = some n
theorem rtVal : RowT 32 6 := ⟨⟨_, Tryz.underlying32, rfl⟩, by kernel_rfl⟩
theorem rtDec : RowT 30 2 := ⟨⟨_, Tryz.underlying30, rfl⟩, by kernel_rfl⟩
theorem rtArg : RowT 55 2 := ⟨⟨_, Tryz.underlying55, rfl⟩, by kernel_rfl⟩
section
variable {o : Oper} {a : Act} {w W : World} {K : Act → World → Prop} {Q : Exit → Act → World → Prop} {bs : Bxs} {g i : Nat} {ty : TypeId} {cs vs : List Value}
theorem ldm_g (T : RowT ty cs.length) (x : Operand) {q : Addr} (ho : o.op = .load ty x) (hx : a.eval x = .pointer (some q)) (hb : ∀ (j : Nat) (u : Value), cs[j]? = some u → W.cell? (q.add j) = some u) (h : K (a.put o.dst (.agg cs.toArray)) W) : o.wp Tryz.prog a W K Q := by
  obtain ⟨d, hu, hd⟩ := T.und; unfold Oper.wp execOp; simp only [ho, hx, Instr.loadAt, Instr.sureAddr, Sem.run_bind, Sem.run_pure, Result.andThen_ok, load_any W q _ cs _ hb hu hd T.size]; exact h
theorem ld_g (T : RowT ty cs.length) (H : Hid (BX w bs W)) (hi : bs[i]? = some (g, ty, cs)) (x : Operand) (ho : o.op = .load ty x) (hx : a.eval x = .pointer (some ⟨g, 0, none⟩)) (h : K (a.put o.dst (.agg cs.toArray)) W) : o.wp Tryz.prog a W K Q :=
  ldm_g T x ho hx (fun j u hu => by
    have e : (⟨g, 0, none⟩ : Addr).add j = ⟨g, j, none⟩ := by unfold Addr.add; split <;> simp_all
    rw [e, H.out.cell hi]; exact hu) h
theorem st_g (T : RowT ty vs.length) (h1 : ∀ u ∈ vs, u.oneCell' = true) (H : Hid (BX w bs W)) (hi : bs[i]? = some (g, ty, cs)) (hl : cs.length = vs.length) (x y : Operand) (ho : o.op = .store ty x y) (hx : a.eval x = .pointer (some ⟨g, 0, none⟩)) (hy : a.eval y = .agg vs.toArray)
    (h : ∀ W', Hid (BX w (bs.set i (g, ty, vs)) W') → K (a.put o.dst undef) W') : o.wp Tryz.prog a W K Q := by
  have hb := H.out.get hi; refine wp_store_mid _ x y ho g 0 vs.toArray hx hy (fun j hj => ?_) (by rw [List.size_toArray]; exact T.size) (all_oneCell_toArray h1) ?_
  · rw [List.size_toArray] at hj; rw [Nat.zero_add, hb.cell, hb.frozen]; exact ⟨by simp; omega, rfl⟩
  · have h2 := setCells_bk vs 0 cs W hb (by omega); have e : cs.take 0 ++ vs ++ cs.drop (0 + vs.length) = vs := by simp [List.drop_eq_nil_of_le (Nat.le_of_eq hl)]
    rw [e] at h2; exact h _ (Lib.hid (H.out.turn hi h2 (setCells_keep _ _ _)))
theorem stop_st (x y : Operand) (ho : o.op = .store ty x y) (h : Hid (o.wp Tryz.prog a W K Q)) : o.wp Tryz.prog a W K Q := h.out
theorem stop_ld (x : Operand) (ho : o.op = .load ty x) (h : Hid (o.wp Tryz.prog a W K Q)) : o.wp Tryz.prog a W K Q := h.out
theorem stop_al (ho : o.op = .alloc ty) (h : Hid (o.wp Tryz.prog a W K Q)) : o.wp Tryz.prog a W K Q := h.out
theorem is_ld (ty : TypeId) (x : Operand) (ho : o.op = .load ty x) (h : o.wp Tryz.prog a W K Q) : o.wp Tryz.prog a W K Q := h
theorem is_st (ty : TypeId) (x y : Operand) (ho : o.op = .store ty x y) (h : o.wp Tryz.prog a W K Q) : o.wp Tryz.prog a W K Q := h
theorem is_al (ty : TypeId) (ho : o.op = .alloc ty) (h : o.wp Tryz.prog a W K Q) : o.wp Tryz.prog a W K Q := h
theorem is_bx (ty : TypeId) (x : Operand) (ho : o.op = .box ty x) (h : o.wp Tryz.prog a W K Q) : o.wp Tryz.prog a W K Q := h
theorem stop_bd {ps : Array (Nat × Operand)} (ho : o.op = .build ty ps) (h : Hid (o.wp Tryz.prog a W K Q)) : o.wp Tryz.prog a W K Q := h.out
theorem stop_bs {n : Nat} {ps : Array (Nat × Operand)} (ho : o.op = .buildSlice ty n ps) (h : Hid (o.wp Tryz.prog a W K Q)) : o.wp Tryz.prog a W K Q := h.out
theorem wp_b {v : Value} (hr : (execOp a.eval o).run Tryz.prog W = .ok (.value v) W) (h : K (a.put o.dst v) W) : o.wp Tryz.prog a W K Q := by
  unfold Oper.wp; rw [hr]; exact h
end
def dc (m : Int) (s : Int) : List Value := [.int .i64 m, .int .i64 s]
theorem dc_one (m s : Int) : ∀ u ∈ dc m s, u.oneCell' = true := by
  intro u hu; simp only [dc, List.mem_cons, List.not_mem_nil, or_false] at hu
  rcases hu with rfl | rfl <;> rfl
section
variable {o : Oper} {a : Act} {w W : World} {K : Act → World → Prop} {Q : Exit → Act → World → Prop} {bs : Bxs} {g i : Nat} {cs : List Value} {v : VX} {m s : Int}
theorem ld_v (i : Nat) (H : Hid (BX w bs W)) (hi : bs[i]? = some (g, 32, vc v)) (x : Operand) (ho : o.op = .load 32 x) (hx : a.eval x = .pointer (some ⟨g, 0, none⟩)) (h : K (a.put o.dst (.agg (vc v).toArray)) W) : o.wp Tryz.prog a W K Q :=
  ld_g (by rw [vc_len]; exact rtVal) H hi x ho hx h
theorem ld_d (i : Nat) (H : Hid (BX w bs W)) (hi : bs[i]? = some (g, 30, dc m s)) (x : Operand) (ho : o.op = .load 30 x) (hx : a.eval x = .pointer (some ⟨g, 0, none⟩)) (h : K (a.put o.dst (.agg (dc m s).toArray)) W) : o.wp Tryz.prog a W K Q :=
  ld_g rtDec H hi x ho hx h
theorem st_v (i : Nat) (H : Hid (BX w bs W)) {v0 : VX} (hi : bs[i]? = some (g, 32, vc v0)) (x y : Operand) (ho : o.op = .store 32 x y) (hx : a.eval x = .pointer (some ⟨g, 0, none⟩)) (hy : a.eval y = .agg (vc v).toArray)
    (h : ∀ W', Hid (BX w (bs.set i (g, 32, vc v)) W') → K (a.put o.dst undef) W') : o.wp Tryz.prog a W K Q :=
  st_g (by rw [vc_len]; exact rtVal) (vc_one v) H hi (by rw [vc_len, vc_len]) x y ho hx hy h
theorem st_d (i : Nat) (H : Hid (BX w bs W)) {m0 s0 : Int} (hi : bs[i]? = some (g, 30, dc m0 s0)) (x y : Operand) (ho : o.op = .store 30 x y) (hx : a.eval x = .pointer (some ⟨g, 0, none⟩)) (hy : a.eval y = .agg (dc m s).toArray)
    (h : ∀ W', Hid (BX w (bs.set i (g, 30, dc m s)) W') → K (a.put o.dst undef) W') : o.wp Tryz.prog a W K Q :=
  st_g rtDec (dc_one m s) H hi rfl x y ho hx hy h
theorem al_v (H : Hid (BX w bs W)) (ho : o.op = .alloc 32) (h : ∀ g W', Hid (BX w ((g, 32, vc .blank) :: bs) W') → K (a.put o.dst (.pointer (some ⟨g, 0, none⟩))) W') : o.wp Tryz.prog a W K Q := by
  have hm := H.out.made 32 (vc .blank); unfold Oper.wp execOp; rw [ho]; simp only [vc] at hm h; go_simp; exact h _ _ (Lib.hid hm)
theorem al_d (H : Hid (BX w bs W)) (ho : o.op = .alloc 30) (h : ∀ g W', Hid (BX w ((g, 30, dc 0 0) :: bs) W') → K (a.put o.dst (.pointer (some ⟨g, 0, none⟩))) W') : o.wp Tryz.prog a W K Q := by
  have hm := H.out.made 30 (dc 0 0); unfold Oper.wp execOp; rw [ho]; simp only [dc] at hm h; go_simp; exact h _ _ (Lib.hid hm)
theorem bx_v (H : Hid (BX w bs W)) (x : Operand) (ho : o.op = .box 32 x) (hx : a.eval x = .agg (vc v).toArray) (h : ∀ g W', Hid (BX w ((g, 32, vc v) :: bs) W') → K (a.put o.dst (.pointer (some ⟨g, 0, none⟩))) W') : o.wp Tryz.prog a W K Q := by
  have hm := H.out.made 32 (vc v); unfold Oper.wp execOp; rw [ho]; simp only [hx]; clear ho hx
  cases v <;> (simp only [vc] at hm h ⊢; go_simp; exact h _ _ (Lib.hid hm))
theorem bx_d (H : Hid (BX w bs W)) (x : Operand) (ho : o.op = .box 30 x) (hx : a.eval x = .agg (dc m s).toArray) (h : ∀ g W', Hid (BX w ((g, 30, dc m s) :: bs) W') → K (a.put o.dst (.pointer (some ⟨g, 0, none⟩))) W') : o.wp Tryz.prog a W K Q := by
  have hm := H.out.made 30 (dc m s); unfold Oper.wp execOp; rw [ho]; simp only [hx]; clear ho hx; simp only [dc] at hm h ⊢; go_simp; exact h _ _ (Lib.hid hm)
theorem res_v {fn : Func} {q : Tmp} (h : fn.results = #[.cell q 32]) {tmps : Array Value} {w : World} {bs : Bxs} {W : World} (H : Hid (BX w bs W)) (hi : bs[i]? = some (g, 32, vc v)) (hp : tmps.getD q undef = .pointer (some ⟨g, 0, none⟩)) :
    (results fn tmps).run Tryz.prog W = .ok (.agg (vc v).toArray) W :=
  results_cell_row h tmps W g 32 (vc v).toArray (0, 0) _ hp (H.out.get hi) Tryz.underlying32 rfl (by rw [List.size_toArray, vc_len]; kernel_rfl)
end
def ac (b : Bool) (A : Option Addr) (n c : Nat) : List Value := [.bool b, .slice A n c]
theorem ac_one (b : Bool) (A : Option Addr) (n c : Nat) : ∀ u ∈ ac b A n c, u.oneCell' = true := by
  intro u hu; simp only [ac, List.mem_cons, List.not_mem_nil, or_false] at hu
  rcases hu with rfl | rfl <;> rfl
section
variable {o : Oper} {a : Act} {w W : World} {K : Act → World → Prop} {Q : Exit → Act → World → Prop} {bs : Bxs} {g i k : Nat} {T : TypeId} {cs : List Value} {u : Value} {v : VX} {b : Bool} {A : Option Addr} {n c : Nat}
theorem ld_a (i : Nat) (H : Hid (BX w bs W)) (hi : bs[i]? = some (g, 55, ac b A n c)) (x : Operand) (ho : o.op = .load 55 x) (hx : a.eval x = .pointer (some ⟨g, 0, none⟩)) (h : K (a.put o.dst (.agg (ac b A n c).toArray)) W) : o.wp Tryz.prog a W K Q :=
  ld_g rtArg H hi x ho hx h
theorem st_a (i : Nat) (H : Hid (BX w bs W)) {b0 : Bool} {A0 : Option Addr} {n0 c0 : Nat} (hi : bs[i]? = some (g, 55, ac b0 A0 n0 c0)) (x y : Operand) (ho : o.op = .store 55 x y) (hx : a.eval x = .pointer (some ⟨g, 0, none⟩)) (hy : a.eval y = .agg (ac b A n c).toArray)
    (h : ∀ W', Hid (BX w (bs.set i (g, 55, ac b A n c)) W') → K (a.put o.dst undef) W') : o.wp Tryz.prog a W K Q :=
  st_g rtArg (ac_one b A n c) H hi rfl x y ho hx hy h
theorem al_a (H : Hid (BX w bs W)) (ho : o.op = .alloc 55) (h : ∀ g W', Hid (BX w ((g, 55, ac false none 0 0) :: bs) W') → K (a.put o.dst (.pointer (some ⟨g, 0, none⟩))) W') : o.wp Tryz.prog a W K Q := by
  have hm := H.out.made 55 (ac false none 0 0); unfold Oper.wp execOp; rw [ho]; simp only [ac] at hm h; go_simp; exact h _ _ (Lib.hid hm)
theorem bx_a (H : Hid (BX w bs W)) (x : Operand) (ho : o.op = .box 55 x) (hx : a.eval x = .agg (ac b A n c).toArray) (h : ∀ g W', Hid (BX w ((g, 55, ac b A n c) :: bs) W') → K (a.put o.dst (.pointer (some ⟨g, 0, none⟩))) W') : o.wp Tryz.prog a W K Q := by
  have hm := H.out.made 55 (ac b A n c); unfold Oper.wp execOp; rw [ho]; simp only [hx]; clear ho hx; simp only [ac] at hm h ⊢; go_simp; exact h _ _ (Lib.hid hm)
theorem res_a {fn : Func} {q : Tmp} (h : fn.results = #[.cell q 55]) {tmps : Array Value} (H : Hid (BX w bs W)) (hi : bs[i]? = some (g, 55, ac b A n c)) (hp : tmps.getD q undef = .pointer (some ⟨g, 0, none⟩)) :
    (results fn tmps).run Tryz.prog W = .ok (.agg (ac b A n c).toArray) W :=
  results_cell_row h tmps W g 55 (ac b A n c).toArray (0, 0) _ hp (H.out.get hi) Tryz.underlying55 rfl (by kernel_rfl)
theorem lf_int (i : Nat) (H : Hid (BX w bs W)) (hi : bs[i]? = some (g, T, cs)) (x : Operand) (ho : o.op = .load 3 x) (hx : a.eval x = .pointer (some ⟨g, k, none⟩)) (hc : cs[k]? = some u) (h : K (a.put o.dst u) W) : o.wp Tryz.prog a W K Q := by
  have c := H.out.cell hi k; rw [hc] at c; unfold Oper.wp execOp; rw [ho]; simp only [hx]; clear ho hx hc hi H; go_simp; exact h
theorem lf_i64 (i : Nat) (H : Hid (BX w bs W)) (hi : bs[i]? = some (g, T, cs)) (x : Operand) (ho : o.op = .load 2 x) (hx : a.eval x = .pointer (some ⟨g, k, none⟩)) (hc : cs[k]? = some u) (h : K (a.put o.dst u) W) : o.wp Tryz.prog a W K Q := by
  have c := H.out.cell hi k; rw [hc] at c; unfold Oper.wp execOp; rw [ho]; simp only [hx]; clear ho hx hc hi H; go_simp; exact h
theorem lf_bool (i : Nat) (H : Hid (BX w bs W)) (hi : bs[i]? = some (g, T, cs)) (x : Operand) (ho : o.op = .load 4 x) (hx : a.eval x = .pointer (some ⟨g, k, none⟩)) (hc : cs[k]? = some u) (h : K (a.put o.dst u) W) : o.wp Tryz.prog a W K Q := by
  have c := H.out.cell hi k; rw [hc] at c; unfold Oper.wp execOp; rw [ho]; simp only [hx]; clear ho hx hc hi H; go_simp; exact h
theorem lf_vals (i : Nat) (H : Hid (BX w bs W)) (hi : bs[i]? = some (g, T, cs)) (x : Operand) (ho : o.op = .load 53 x) (hx : a.eval x = .pointer (some ⟨g, k, none⟩)) (hc : cs[k]? = some u) (h : K (a.put o.dst u) W) : o.wp Tryz.prog a W K Q := by
  have c := H.out.cell hi k; rw [hc] at c; unfold Oper.wp execOp; rw [ho]; simp only [hx]; clear ho hx hc hi H; go_simp; exact h
theorem ld_k (i : Nat) (H : Hid (BX w bs W)) (hi : bs[i]? = some (g, 32, vc v)) (x : Operand) (ho : o.op = .load 3 x) (hx : a.eval x = .pointer (some ⟨g, 0, none⟩)) (h : K (a.put o.dst (.int .i64 v.kind)) W) : o.wp Tryz.prog a W K Q :=
  lf_int i H hi x ho hx (vc_kind v) h
end
end Go.Proofs.YtngkolcpbgibcaaGreatDoor
