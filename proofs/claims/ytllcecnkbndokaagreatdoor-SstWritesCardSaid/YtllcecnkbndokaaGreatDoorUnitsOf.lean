/- A row of bytes in one block, sliced from its front; slicing as an operation. No condition. -/
/- What holds while a text's units are put, one by one: in memory. No condition; no model's run. -/
/- sst.unitsOf by its contract. No condition. -/
import Derived.Test.YtllcecnkbndokaaGreatDoorRoom
import Derived.Test.YtllcecnkbndokaaGreatDoorPut2
namespace Go.Proofs.YtllcecnkbndokaaGreatDoor
open Go.RowKit Go.Lib

/-- Where 'x[k:]' begins. -/
def adv (A : Option Addr) (c k : Nat) : Option Addr := if c = k then A else A.map (·.add k)
structure RdG (w : World) (gb : Nat) (A : Option Addr) (n c : Nat) (l : List UInt8) : Prop where
  len : l.length = n
  cap : n ≤ c
  at_ : n = 0 ∨ ∃ o, A = some ⟨gb, o, none⟩ ∧ gb < w.heap.size ∧ ∀ j x, l[j]? = some x → w.cell? ⟨gb, o + j, none⟩ = some (bv x)
theorem addr_at (g o j : Nat) : (⟨g, o, none⟩ : Addr).add j = ⟨g, o + j, none⟩ := by
  unfold Addr.add
  split
  · rename_i h; subst h; rfl
  · rfl
section
variable {w w' : World} {gb n c k : Nat} {A : Option Addr} {l : List UInt8}
theorem RdG.rd (h : RdG w gb A n c l) : Rd w w.heap.size 1 A n (l.map bv) := by
  refine ⟨by rw [List.length_map, h.len, Nat.mul_one], fun hn => ?_⟩
  rcases h.at_ with h0 | ⟨o, rfl, hb, hc⟩
  · omega
  · refine ⟨_, rfl, hb, fun j u hu => ?_⟩
    rw [addr_at]
    rw [List.getElem?_map] at hu
    cases hl : l[j]? with
    | none => rw [hl] at hu; cases hu
    | some x =>
      rw [hl] at hu
      rw [hc j x hl]
      simpa using hu
theorem RdG.keep (h : RdG w gb A n c l) (hk : w'.heap[gb]? = w.heap[gb]?) (hs : w.heap.size ≤ w'.heap.size) : RdG w' gb A n c l := by
  refine ⟨h.len, h.cap, ?_⟩
  rcases h.at_ with h0 | ⟨o, rfl, hb, hc⟩
  · exact .inl h0
  · refine .inr ⟨o, rfl, by omega, fun j x hx => ?_⟩
    rw [← hc j x hx]
    simp [World.cell?, hk]
theorem RdG.keepT {T : Nat → Prop} (h : RdG w gb A n c l) (hK : Keep T w w') (hn : ¬ T gb) : RdG w' gb A n c l := by
  rcases h.at_ with h0 | ⟨o, rfl, hb, hc⟩
  · exact ⟨h.len, h.cap, .inl h0⟩
  · exact h.keep (hK.block gb hb hn) hK.size
theorem RdG.below (h : RdG w gb A n c l) (hb : Below w.heap.size w w') : RdG w' gb A n c l := by
  rcases h.at_ with h0 | ⟨o, rfl, hg, hc⟩
  · exact ⟨h.len, h.cap, .inl h0⟩
  · exact h.keep (hb.block gb hg) hb.size
theorem RdG.front (h : RdG w gb A n c l) (hk : k ≤ n) : RdG w gb A k c (l.take k) := by
  refine ⟨by rw [List.length_take, h.len]; omega, by have := h.cap; omega, ?_⟩
  rcases h.at_ with h0 | ⟨o, rfl, hb, hc⟩
  · exact .inl (by omega)
  · refine .inr ⟨o, rfl, hb, fun j x hx => hc j x ?_⟩
    rw [List.getElem?_take] at hx
    split at hx
    · exact hx
    · cases hx
theorem RdG.rest (h : RdG w gb A n c l) (hk : k ≤ n) : RdG w gb (adv A c k) (n - k) (c - k) (l.drop k) := by
  unfold adv
  have hcap := h.cap
  refine ⟨by rw [List.length_drop, h.len], by omega, ?_⟩
  rcases h.at_ with h0 | ⟨o, rfl, hb, hc⟩
  · exact .inl (by omega)
  · by_cases hck : c = k
    · exact .inl (by omega)
    · rw [if_neg hck]
      refine .inr ⟨o + k, by rw [Option.map_some, addr_at], hb, fun j x hx => ?_⟩
      rw [List.getElem?_drop] at hx
      rw [Nat.add_assoc]
      exact hc _ x hx
/-- A row of the call's own, by its block. -/
theorem RdG.own {base : Nat} {v : Value} (ho : w.ownsRow base 5 1 v n (l.map bv)) (hn : 0 < n) : ∃ gb c, v = .slice (some ⟨gb, 0, none⟩) n c ∧ base ≤ gb ∧ Bk w gb 5 (w.heap[gb]?.elim #[] fun o => match o with | .cells cs _ _ => cs | _ => #[]) ∧ RdG w gb (some ⟨gb, 0, none⟩) n c l := by
  have hlen : l.length = n := by have := ho.1; simpa using this
  rcases ho.2 with ⟨rfl, h0⟩ | ⟨g, cap, cur, rfl, hb, hg, hnc, hm, hs, ht⟩
  · omega
  · refine ⟨g, cap, rfl, hb, ?_, hlen, hnc, .inr ⟨0, rfl, (Array.getElem?_eq_some_iff.1 hg).1, fun j x hx => ?_⟩⟩
    · unfold Bk
      rw [hg]
      rfl
    · have := ho.cells (g := g) rfl j (bv x) (by rw [List.getElem?_map, hx]; rfl)
      rw [addr_at] at this
      exact this
end

theorem run_lo (w : World) (A : Option Addr) (n c k : Nat) (hk : k ≤ n) : (Instr.sliceAt 27 (.slice A n c) (some (.int .i64 (k : Int))) none none).run Tryz.prog w = .ok (.slice (adv A c k) (n - k) (c - k)) w := by
  unfold adv
  have hu : Tryz.prog.underlying 27 = some (.slice (Tryz.prog.elem 27)) := by kernel_rfl
  rw [run_sliceAt_slice _ _ _ _ _ _ hu, run_slice_l _ _ _ _ _ hu .i64 (k : Int) (by omega) (by omega)]
  have hs : (sizeOf (Tryz.prog.elem 27)).run Tryz.prog w = .ok 1 w := by kernel_rfl
  rw [hs]
  simp [Result.andThen, sliced]
theorem run_hi (w : World) (gb o n c k : Nat) (hk : k ≤ c) : (Instr.sliceAt 27 (.slice (some ⟨gb, o, none⟩) n c) none (some (.int .i64 (k : Int))) none).run Tryz.prog w = .ok (.slice (some ⟨gb, o, none⟩) k c) w := by
  have hu : Tryz.prog.underlying 27 = some (.slice (Tryz.prog.elem 27)) := by kernel_rfl
  rw [run_sliceAt_slice _ _ _ _ _ _ hu, run_slice_h _ _ _ _ _ hu .i64 (k : Int) (by omega) (by omega)]
  have hs : (sizeOf (Tryz.prog.elem 27)).run Tryz.prog w = .ok 1 w := by kernel_rfl
  rw [hs]
  simp [Result.andThen, sliced, Addr.add]
section
variable {P : Program} {w : World} {t : TypeId} {X Y v : Value} {o : Oper} {a : Act}
theorem wpList_lo {ops : Array Oper} {rest : List Oper} {Q : Exit → Act → World → Prop} (hgd : o.guard = none) (x lo : Operand) (ho : o.op = .slice t x (some lo) none none) (hx : a.eval x = X) (hl : a.eval lo = Y)
    (hrun : (Instr.sliceAt t X (some Y) none none).run P w = .ok v w) (h : wpList P ops Q rest (a.put o.dst v) w) : wpList P ops Q (o :: rest) a w := by
  refine wpList_plain hgd fun K' hK' => ?_
  unfold Oper.wp
  simp [execOp, ho, hx, hl, hrun, Result.andThen]
  exact hK' _ _ h
theorem lands_hi {S : World → Prop} {F : World → World → Prop} {R : Value → World → Prop} (x hi : Operand) (ho : o.op = .slice t x none (some hi) none) (hx : a.eval x = X) (hl : a.eval hi = Y)
    (hrun : (Instr.sliceAt t X none (some Y) none).run P w = .ok v w) (h : R v w ∧ S w ∧ F w w) : Lands P S F R w ((execOp a.eval o).run P w) := by
  simp [execOp, ho, hx, hl, hrun, Result.andThen]
  exact h
end
end Go.Proofs.YtllcecnkbndokaaGreatDoor
namespace Go.Proofs.YtllcecnkbndokaaGreatDoor
open Go.RowKit Go.Lib

theorem putU_cut {k w : Nat} {S : LS} (hk : k = w + 1) (u : Int) (h : 224 < S.b.length - S.bg + k) : putU w S u = ⟨(S.b ++ [UInt8.ofNat w]) ++ ub w u, S.cs ++ [(S.b.length : Int)], S.b.length⟩ := by
  subst hk
  unfold putU
  rw [if_pos h]
theorem putU_go {k w : Nat} {S : LS} (hk : k = w + 1) (u : Int) (h : ¬ 224 < S.b.length - S.bg + k) : putU w S u = ⟨S.b ++ ub w u, S.cs, S.bg⟩ := by
  subst hk
  unfold putU
  rw [if_neg h]
theorem putU_bd {w : Nat} (hw : w ≤ 1) {S : LS} (u : Int) (h : S.cs.length ≤ S.b.length) : (putU w S u).b.length ≤ S.b.length + 3 ∧ (putU w S u).cs.length ≤ (putU w S u).b.length := by
  have hl := ub_len2 w hw u
  unfold putU
  split
  · simp only [List.length_append, List.length_singleton, hl]
    omega
  · simp only [List.length_append, hl]
    omega
theorem keep_iterAt {w : World} {g : Nat} {s : ByteArray} (p : Nat) : Keep (fun i => i = g) w (w.iterAt g s p) :=
  ⟨rfl, rfl, rfl, by simp [World.iterAt], fun i _ hi => iterAt_other _ _ _ _ _ hi⟩

structure LI (w W : World) (base g gb fl : Nat) (F : LS) (ps : List Nat) (dv cv pv : Value) (us : List Int) (S : LS) (d c p : Value) (A : Option Addr) (n cp : Nat) : Prop where
  j : PJ w W base g S ps dv cv pv d c p
  r : RdG W gb A n cp (us.flatMap (ub fl))
  b : ∃ cs, Bk W gb 5 cs
  f : us.foldl (putU fl) S = F
  inv : Inv S
  cs : S.cs.length ≤ S.b.length
  bd : S.b.length + 3 * us.length ≤ 10003003
  ap : d.ownBlock ≠ some gb
  low : w.heap.size ≤ gb
section
variable {w W W' : World} {base g gb fl n cp : Nat} {F S : LS} {ps : List Nat} {dv cv pv d c p d' c' : Value} {us : List Int} {A : Option Addr}
theorem LI.nogb (h : LI w W base g gb fl F ps dv cv pv us S d c p A n cp) : ¬ PT g d c p gb := by
  obtain ⟨cs, hb⟩ := h.b
  have hi := h.j.i
  rintro (rfl | ht | ht | ht)
  · have := hi.box
    unfold Bk at this hb
    rw [this] at hb
    injection hb with hb
    injection hb with _ hb
    exact absurd hb (by decide)
  · exact h.ap ht
  · exact own_ne hi.oc hb (by decide) ht
  · exact own_ne hi.op hb (by decide) ht
theorem LI.keep {T : Nat → Prop} (h : LI w W base g gb fl F ps dv cv pv us S d c p A n cp) (hK : Keep T W W') (hn : ∀ i, PT g d c p i → ¬ T i) (hg : ¬ T gb) (ho : ∀ i, i < w.heap.size → T i → PT g dv cv pv i) : LI w W' base g gb fl F ps dv cv pv us S d c p A n cp := by
  obtain ⟨cs, hb⟩ := h.b
  exact ⟨⟨h.j.i.keep hK hn, h.j.keep.trans hK ho, h.j.ld, h.j.lc, h.j.lp⟩, h.r.keepT hK hg, ⟨cs, hK.bk hb hg⟩, h.f, h.inv, h.cs, h.bd, h.ap, h.low⟩
theorem LI.below (h : LI w W base g gb fl F ps dv cv pv us S d c p A n cp) (hb : Below W.heap.size W W') : LI w W' base g gb fl F ps dv cv pv us S d c p A n cp := by
  obtain ⟨cs, hk⟩ := h.b
  exact ⟨h.j.below hb, h.r.below hb, ⟨cs, hk.below hb hk.lt⟩, h.f, h.inv, h.cs, h.bd, h.ap, h.low⟩
theorem LI.iter {s : ByteArray} {j q : Nat} (h : LI w W base g gb fl F ps dv cv pv us S d c p A n cp) (hk : W.heap[j]? = some (.stringIter s q)) (q' : Nat) (hj : w.heap.size ≤ j) : LI w (W.iterAt j s q') base g gb fl F ps dv cv pv us S d c p A n cp := by
  refine h.keep (T := fun i => i = j) (keep_iterAt q') (fun i hi ht => ?_) (fun ht => ?_) (fun i hi ht => by omega)
  · subst ht
    exact h.j.i.iter hk hi
  · subst ht
    obtain ⟨cs, hb⟩ := h.b
    unfold Bk at hb
    rw [hk] at hb
    cases hb

/-- While a unit is put: the parts have gone on from S to S', the row of bytes has not. -/
structure LM (w W : World) (base g gb : Nat) (ps : List Nat) (dv cv pv : Value) (S' : LS) (d c p : Value) (A : Option Addr) (n cp : Nat) (l : List UInt8) : Prop where
  j : PJ w W base g S' ps dv cv pv d c p
  r : RdG W gb A n cp l
  b : ∃ cs, Bk W gb 5 cs
  ap : d.ownBlock ≠ some gb
theorem LI.room {k : Nat} (h : LI w W base g gb fl F ps dv cv pv us S d c p A n cp) (hJ : PJ W W' base g (cutN k S) ps d c p d c' p) : LM w W' base g gb ps dv cv pv (cutN k S) d c' p A n cp (us.flatMap (ub fl)) := by
  obtain ⟨cs, hb⟩ := h.b
  exact ⟨h.j.trans hJ, h.r.keepT hJ.keep h.nogb, ⟨cs, hJ.keep.bk hb h.nogb⟩, h.ap⟩
theorem LM.data {l t : List UInt8} (h : LM w W base g gb ps dv cv pv S d c p A n cp l) (hK : Keep (ApT g d) W W') (hb : Bk W' g 83 #[d', c, .int .i64 S.bg, p]) (ho : W'.ownsRow base 5 1 d' (S.b ++ t).length ((S.b ++ t).map bv)) (hl : Lies W d d') :
    LM w W' base g gb ps dv cv pv ⟨S.b ++ t, S.cs, S.bg⟩ d' c p A n cp l := by
  obtain ⟨cs, hB⟩ := h.b
  have hn : ¬ ApT g d gb := by
    rintro (rfl | ht)
    · have := h.j.i.box
      unfold Bk at this hB
      rw [this] at hB
      injection hB with hB
      injection hB with _ hB
      exact absurd hB (by decide)
    · exact h.ap ht
  exact ⟨h.j.trans (h.j.i.data hK hb ho hl), h.r.keepT hK hn, ⟨cs, hK.bk hB hn⟩, fun hi => h.ap (hl.old hB.lt hi)⟩
theorem LM.below {l : List UInt8} (h : LM w W base g gb ps dv cv pv S d c p A n cp l) (hb : Below W.heap.size W W') : LM w W' base g gb ps dv cv pv S d c p A n cp l := by
  obtain ⟨cs, hk⟩ := h.b
  exact ⟨h.j.below hb, h.r.below hb, ⟨cs, hk.below hb hk.lt⟩, h.ap⟩
theorem LM.nogb {l : List UInt8} (h : LM w W base g gb ps dv cv pv S d c p A n cp l) : ¬ PT g d c p gb := by
  obtain ⟨cs, hb⟩ := h.b
  have hi := h.j.i
  rintro (rfl | ht | ht | ht)
  · have := hi.box
    unfold Bk at this hb
    rw [this] at hb
    injection hb with hb
    injection hb with _ hb
    exact absurd hb (by decide)
  · exact h.ap ht
  · exact own_ne hi.oc hb (by decide) ht
  · exact own_ne hi.op hb (by decide) ht
theorem LM.room {l : List UInt8} {S' : LS} (h : LM w W base g gb ps dv cv pv S d c p A n cp l) (hJ : PJ W W' base g S' ps d c p d c' p) : LM w W' base g gb ps dv cv pv S' d c' p A n cp l := by
  obtain ⟨cs, hb⟩ := h.b
  exact ⟨h.j.trans hJ, h.r.keepT hJ.keep h.nogb, ⟨cs, hJ.keep.bk hb h.nogb⟩, h.ap⟩
theorem LM.place {l : List UInt8} {p' : Value} (h : LM w W base g gb ps dv cv pv S d c p A n cp l) (hK : Keep (ApT g p) W W') (x : Nat) (hb : Bk W' g 83 #[d, c, .int .i64 S.bg, p']) (ho : W'.ownsRow base 3 1 p' (ps ++ [x]).length ((ps ++ [x]).map nv)) (hl : Lies W p p') :
    LM w W' base g gb (ps ++ [x]) dv cv pv S d c p' A n cp l := by
  obtain ⟨cs, hB⟩ := h.b
  have hn : ¬ ApT g p gb := by
    rintro (rfl | ht)
    · exact h.nogb (.inl rfl)
    · exact h.nogb (.inr (.inr (.inr ht)))
  exact ⟨h.j.trans (h.j.i.place hK x hb ho hl), h.r.keepT hK hn, ⟨cs, hK.bk hB hn⟩, h.ap⟩
/-- One byte behind the bytes, by a block of its own, stored. -/
theorem LM.byte {l : List UInt8} {W3 : World} {v3 : Value} {o : Obj} (x : UInt8) (h : LM w W base g gb ps dv cv pv S d c p A n cp l) (hg : Grew (W.alloc o) W3 d v3) (ho : W3.ownsRow base 5 1 v3 (S.b.length + 1) (S.b.map bv ++ [bv x])) :
    Bk W3 g 83 #[d, c, .int .i64 S.bg, p] ∧ LM w (W3.setCell ⟨g, 0, none⟩ v3) base g gb ps dv cv pv ⟨S.b ++ [x], S.cs, S.bg⟩ v3 c p A n cp l := by
  have hb3 : Bk W3 g 83 #[d, c, .int .i64 S.bg, p] := hg.bk (h.j.i.od.alloc o) (h.j.i.box.alloc o) (by decide)
  have hg2 := hg.of_alloc
  have h1 : Keep (fun i => i = g) W3 (W3.setCell ⟨g, 0, none⟩ v3) := (Keep.refl (fun i => i = g) W3).setCell (p := ⟨g, 0, none⟩) (fun _ => rfl) v3
  have hK : Keep (ApT g d) W (W3.setCell ⟨g, 0, none⟩ v3) := (Keep.of_grew (S := ApT g d) hg2 fun i hi => .inr hi.symm).trans h1 fun i _ hi => .inl hi
  refine ⟨hb3, h.data hK (hb3.set_ 0 v3) ?_ hg2.lies⟩
  rw [List.length_append, List.length_singleton, List.map_append, List.map_cons, List.map_nil]
  exact h1.own ho fun i hi he => by
    subst he
    exact own_ne ho hb3 (by decide) hi
/-- A unit has been put. -/
theorem LI.next {u : Int} {A' : Option Addr} {n' cp' : Nat} (hf : fl ≤ 1) (h : LI w W base g gb fl F ps dv cv pv (u :: us) S d c p A n cp) (hM : LM w W' base g gb ps dv cv pv (putU fl S u) d' c' p A' n' cp' (us.flatMap (ub fl))) : LI w W' base g gb fl F ps dv cv pv us (putU fl S u) d' c' p A' n' cp' := by
  have hbd := putU_bd hf u h.cs
  have h2 := h.bd
  rw [List.length_cons] at h2
  exact ⟨hM.j, hM.r, hM.b, h.f, h.inv.putU hf u, hbd.2, by omega, hM.ap, h.low⟩
end
/-- The first unit's bytes, and the others'. -/
theorem RdG.unit {w : World} {gb n c fl : Nat} {A : Option Addr} {u : Int} {us : List Int} (hf : fl ≤ 1) (h : RdG w gb A n c ((u :: us).flatMap (ub fl))) :
    fl + 1 ≤ n ∧ (∃ o, A = some ⟨gb, o, none⟩) ∧ RdG w gb A (fl + 1) c (ub fl u) ∧ RdG w gb (adv A c (fl + 1)) (n - (fl + 1)) (c - (fl + 1)) (us.flatMap (ub fl)) := by
  have hl := ub_len2 fl hf u
  have hlen := h.len
  rw [List.flatMap_cons, List.length_append, hl] at hlen
  have h1 := h.front (k := fl + 1) (by omega)
  have h2 := h.rest (k := fl + 1) (by omega)
  rw [List.flatMap_cons] at h1 h2
  rw [List.take_append_of_le_length (by omega), List.take_of_length_le (by omega)] at h1
  rw [List.drop_append_of_le_length (by omega), List.drop_eq_nil_of_le (by omega), List.nil_append] at h2
  refine ⟨by omega, ?_, h1, h2⟩
  rcases h.at_ with h0 | ⟨o, ho, _⟩
  · omega
  · exact ⟨o, ho⟩
end Go.Proofs.YtllcecnkbndokaaGreatDoor
namespace Go.Proofs.YtllcecnkbndokaaGreatDoor
open Go.RowKit Go.Lib

theorem unitsOf_any {w : World} (r : Int) : Calls Tryz.prog 61 #[.int .i32 r] w fun e w' => e = .returned (.int .i64 ((uni r).length : Nat)) ∧ w = w' := by
  have hu := uni_len r
  by_cases h : 65536 ≤ r
  · rw [if_pos h] at hu
    rw [hu]
    clear hu
    go_enter Tryz.func61, Tryz.ntmps61
    go_wp2
    go_ret
    exact ⟨rfl, rfl⟩
  · rw [if_neg h] at hu
    rw [hu]
    clear hu
    go_enter Tryz.func61, Tryz.ntmps61
    go_wp2
    go_ret
    exact ⟨rfl, rfl⟩
theorem uni_two (r : Int) : (uni r).length ≤ 2 := by rw [uni_len]; split <;> omega
end Go.Proofs.YtllcecnkbndokaaGreatDoor
