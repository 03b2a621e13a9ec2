/- rec.add by its contract. Conditions: the row of records is the call's own; its records are short. -/
import Derived.Test.YtpjimppfgmemeaaOwn
namespace Go.Proofs.Ytpjimppfgmemeaa
open Go.RowKit

theorem recsRow : ElemRow Try.prog 39 30 (.agg #[.int .i64 0, .slice none 0 0, .slice none 0 0, .int .i64 0]) 4 64 := by
  obtain ⟨i, hi, h0, h1, h2⟩ := info_parts (P := Try.prog) (e := 30) (z := .agg #[.int .i64 0, .slice none 0 0, .slice none 0 0, .int .i64 0]) (size := 4) (bytes := 64) (by kernel_rfl)
  exact ⟨Try.underlying39, ⟨i, hi, h0, h1, h2⟩, rfl, by omega⟩

theorem rowOf_snoc (S : List Item) (x : Item) : rowOf (S ++ [x]) = rowOf S ++ [.int .i64 x.r.type, x.d, x.c, .int .i64 x.r.at_] := by simp [rowOf]

/-- One record more, its data in a new block. -/
theorem RecsOwn.snoc {w w' : World} {base : Nat} {v v' : Value} {S : List Item} {x : Item} {T : Nat → Prop} (h : RecsOwn w base v S) (hK : Keep T w w') (hT : ∀ i, i < w.heap.size → T i → v.ownBlock = some i)
    (hrow : w'.ownsRow base 30 4 v' (S.length + 1) (rowOf S ++ [.int .i64 x.r.type, x.d, x.c, .int .i64 x.r.at_]))
    (hd : w'.ownsRow base 5 1 x.d x.r.data.length (x.r.data.map bv)) (hc : w'.ownsRow base 3 1 x.c x.r.cuts.length (x.r.cuts.map iv))
    (nd : ∀ i, x.d.ownBlock = some i → w.heap.size ≤ i) (nc : ∀ i, x.c.ownBlock = some i → w.heap.size ≤ i) : RecsOwn w' base v' (S ++ [x]) := by
  have kd : ∀ y ∈ S, w'.ownsRow base 5 1 y.d y.r.data.length (y.r.data.map bv) := fun y hy => hK.own (h.data y hy) fun i hi ht =>
    own_own_ne (h.data y hy) h.row (by decide) i hi (hT i ((h.data y hy).lt i hi).2 ht)
  have kc : ∀ y ∈ S, w'.ownsRow base 3 1 y.c y.r.cuts.length (y.r.cuts.map iv) := fun y hy => hK.own (h.cuts y hy) fun i hi ht =>
    own_own_ne (h.cuts y hy) h.row (by decide) i hi (hT i ((h.cuts y hy).lt i hi).2 ht)
  refine ⟨by rw [rowOf_snoc]; simpa using hrow, ?_, ?_, ?_, ?_⟩
  · intro y hy
    rcases List.mem_append.1 hy with hy | hy
    · exact kd y hy
    · simp at hy; subst hy; exact hd
  · intro y hy
    rcases List.mem_append.1 hy with hy | hy
    · exact kc y hy
    · simp at hy; subst hy; exact hc
  · refine List.pairwise_append.2 ⟨h.dapart, by simp, fun y hy z hz i hi e => ?_⟩
    simp at hz; subst hz
    have := ((h.data y hy).lt i hi).2
    have := nd i e
    omega
  · refine List.pairwise_append.2 ⟨h.capart, by simp, fun y hy z hz i hi e => ?_⟩
    simp at hz; subst hz
    have := ((h.cuts y hy).lt i hi).2
    have := nc i e
    omega

theorem addNew_any {w : World} {base B m dc : Nat} {v : Value} {S : List Item} {D : Option Addr} {l : List UInt8} {kind at_ : Int} (h : RecsOwn w base v S) (hb : base ≤ w.heap.size) (hS : S.length ≤ 1000000000000)
    (hk : kind ≠ 60) (hl : Rd w B 1 D m (l.map bv)) (hB : B ≤ base) (hm : m ≤ 1000000) :
    Calls Try.prog 26 #[v, .int .i64 kind, .slice D m dc, .int .i64 at_] w fun e w' => ∃ v' d, e = .returned (.tuple #[v', .int .i64 0]) ∧
      RecsOwn w' base v' (S ++ [⟨⟨kind, l, [], at_⟩, d, .slice none 0 0⟩]) ∧ Below base w w' := by
  have hb' : (kind != 60) = true := by simp [hk]
  have hml := hl.blen
  have HML := Lib.hid hml
  clear hk hml
  obtain ⟨Av, c, rfl, _, _, _⟩ := own_form h.row
  go_enter Try.func26, Try.ntmps26
  go_wp2_with fail
  refine (clone_any hl (by omega) (by omega)).mono ?_
  rintro e w1 ⟨d, rfl, od, b1⟩
  obtain ⟨Dv, dvc, rfl, _, _, _⟩ := own_form od
  have h1 := h.below b1
  have s1 := b1.size
  go_wp2_with (at_builtin; refine wpList_app recsRow rfl (.tmp 13) (.tmp 19) rfl rfl rfl (h1.row.alloc _) (Rd.fresh _ _ 4 1 _ rfl) ?_ ?_ ?_ ?_ ?_)
  · intro u hu; simp at hu; rcases hu with rfl | rfl | rfl | rfl <;> rfl
  · unfold maxLen; omega
  · omega
  · simp; omega
  · intro v2 w2 o2 g2 b2_
    go_wp2
    go_ret2
    have K2 := Keep.of_grew g2 (S := fun i => some i = (Value.slice Av S.length c).ownBlock) fun _ h => h
    have K : Keep (fun i => some i = (Value.slice Av S.length c).ownBlock) w w2 :=
      ((Keep.of_below b1 (S := fun i => some i = (Value.slice Av S.length c).ownBlock) fun i hi h => by omega).alloc _).trans K2 fun i _ h => h
    have od1 : (w1.alloc (.cells #[.int .i64 kind, .slice Dv m dvc, .slice none 0 0, .int .i64 at_] 30)).ownsRow w.heap.size 5 1 (.slice Dv m dvc) m (l.map bv) := od.alloc _
    have or1 : (w1.alloc (.cells #[.int .i64 kind, .slice Dv m dvc, .slice none 0 0, .int .i64 at_] 30)).ownsRow base 30 4 (.slice Av S.length c) S.length (rowOf S) := h1.row.alloc _
    have od2 := K2.own od1 fun i hi e => own_own_ne od1 or1 (by decide) i hi e.symm
    refine ⟨v2, .slice Dv m dvc, rfl, ?_, ?_⟩
    · refine h.snoc K (fun i _ e => e.symm) o2 ?_ (World.ownsRow_nil _ _ _ _) (fun i e => (od.lt i e).1) (by simp [Value.ownBlock])
      simp only []
      rw [HML.out]
      exact own_mono od2 hb
    · exact ((b1.mono hb).alloc (by omega) _).trans b2_

/-- The last record extended. -/
def extM (L : List RecM) (l : List UInt8) : List RecM :=
  match L.getLast? with
  | none => L
  | some r => L.dropLast ++ [{ r with data := r.data ++ l, cuts := r.cuts ++ [(r.data.length : Int)] }]

theorem getLast_split {α : Type} {S : List α} {x : α} (h : S.getLast? = some x) : S = S.dropLast ++ [x] := by
  have hne : S ≠ [] := by rintro rfl; simp at h
  rw [List.getLast?_eq_some_getLast hne] at h
  injection h with h
  rw [← h]
  exact (List.dropLast_concat_getLast hne).symm

theorem list_set_append {α : Type} (l : List α) (a b c d y : α) : (l ++ [a, b, c, d]).set (l.length + 1) y = l ++ [a, y, c, d] ∧ (l ++ [a, b, c, d]).set (l.length + 2) y = l ++ [a, b, y, d] := by
  induction l with
  | nil => exact ⟨rfl, rfl⟩
  | cons z l ih =>
    constructor
    · show z :: (l ++ [a, b, c, d]).set (l.length + 1) y = _
      rw [ih.1]; rfl
    · show z :: (l ++ [a, b, c, d]).set (l.length + 2) y = _
      rw [ih.2]; rfl

/-- The last record's two slices have turned. -/
theorem RecsOwn.ext {w w' : World} {base g c : Nat} {S0 : List Item} {x y : Item} (h : RecsOwn w base (.slice (some ⟨g, 0, none⟩) (S0.length + 1) c) (S0 ++ [x])) {cur : Array Value} (hk : Bk w g 30 cur)
    (k' : Bk w' g 30 ((cur.setIfInBounds (S0.length * 4 + 2) y.c).setIfInBounds (S0.length * 4 + 1) y.d))
    (K : Keep (fun i => i = g ∨ x.d.ownBlock = some i ∨ x.c.ownBlock = some i) w w')
    (od : w'.ownsRow base 5 1 y.d y.r.data.length (y.r.data.map bv)) (oc : w'.ownsRow base 3 1 y.c y.r.cuts.length (y.r.cuts.map iv))
    (ld : y.d.ownBlock = x.d.ownBlock ∨ ∃ i, y.d.ownBlock = some i ∧ w.heap.size ≤ i) (lc : y.c.ownBlock = x.c.ownBlock ∨ ∃ i, y.c.ownBlock = some i ∧ w.heap.size ≤ i)
    (e1 : y.r.type = x.r.type) (e2 : y.r.at_ = x.r.at_) : RecsOwn w' base (.slice (some ⟨g, 0, none⟩) (S0.length + 1) c) (S0 ++ [y]) := by
  obtain ⟨_, ⟨h0, _⟩ | ⟨g', cap, cur', hv, hbg, hg, hnc, hm, hs, ht⟩⟩ := h.row
  · cases h0
  simp only [Value.slice.injEq, Option.some.injEq, Addr.mk.injEq, and_true] at hv
  obtain ⟨rfl, _, rfl⟩ := hv
  have hcur : cur' = cur := by
    unfold Bk at hk
    rw [hk] at hg
    injection hg with hg
    injection hg with hg
    exact hg.symm
  subst hcur
  have hl : (S0 ++ [x]).length = S0.length + 1 := by simp
  have da := List.pairwise_append.1 h.dapart
  have ca := List.pairwise_append.1 h.capart
  have hx : x ∈ S0 ++ [x] := by simp
  have kd : ∀ z ∈ S0, w'.ownsRow base 5 1 z.d z.r.data.length (z.r.data.map bv) := fun z hz => by
    have hz' := h.data z (List.mem_append_left _ hz)
    refine K.own hz' fun i hi e => ?_
    rcases e with rfl | e | e
    · exact own_ne hz' hk (by decide) hi
    · exact da.2.2 z hz x (by simp) i hi e
    · exact own_own_ne hz' (h.cuts x hx) (by decide) i hi e
  have kc : ∀ z ∈ S0, w'.ownsRow base 3 1 z.c z.r.cuts.length (z.r.cuts.map iv) := fun z hz => by
    have hz' := h.cuts z (List.mem_append_left _ hz)
    refine K.own hz' fun i hi e => ?_
    rcases e with rfl | e | e
    · exact own_ne hz' hk (by decide) hi
    · exact own_own_ne hz' (h.data x hx) (by decide) i hi e
    · exact ca.2.2 z hz x (by simp) i hi e
  refine ⟨⟨by rw [rowOf_len], .inr ⟨g, c, _, by simp, hbg, k', by simp at hnc ⊢; omega, hm, by simp [hs], ?_⟩⟩, ?_, ?_, ?_, ?_⟩
  · rw [Array.toList_setIfInBounds, Array.toList_setIfInBounds, List.take_set, List.take_set]
    have hr : rowOf (S0 ++ [x]) = rowOf S0 ++ [.int .i64 x.r.type, x.d, x.c, .int .i64 x.r.at_] := rowOf_snoc _ _
    have hle : (S0 ++ [y]).length = (S0 ++ [x]).length := by simp
    rw [hle, ht, hr, rowOf_snoc, ← rowOf_len S0, (list_set_append _ _ _ _ _ _).2, (list_set_append _ _ _ _ _ _).1, e1, e2]
  · intro z hz
    rcases List.mem_append.1 hz with hz | hz
    · exact kd z hz
    · simp at hz; subst hz; exact od
  · intro z hz
    rcases List.mem_append.1 hz with hz | hz
    · exact kc z hz
    · simp at hz; subst hz; exact oc
  · refine List.pairwise_append.2 ⟨da.1, by simp, fun z hz u hu i hi e => ?_⟩
    simp at hu; subst hu
    rcases ld with l | ⟨j, l, hj⟩
    · exact da.2.2 z hz x (by simp) i hi (l ▸ e)
    · have := ((h.data z (List.mem_append_left _ hz)).lt i hi).2
      rw [l] at e; injection e with e; omega
  · refine List.pairwise_append.2 ⟨ca.1, by simp, fun z hz u hu i hi e => ?_⟩
    simp at hu; subst hu
    rcases lc with l | ⟨j, l, hj⟩
    · exact ca.2.2 z hz x (by simp) i hi (l ▸ e)
    · have := ((h.cuts z (List.mem_append_left _ hz)).lt i hi).2
      rw [l] at e; injection e with e; omega

theorem addMore_any {w : World} {base B m dc : Nat} {v : Value} {S : List Item} {D : Option Addr} {l : List UInt8} {at_ : Int} (h : RecsOwn w base v S) (hb : base ≤ w.heap.size) (hS : S.length ≤ 1000000000000)
    (hl : Rd w B 1 D m (l.map bv)) (hB : B ≤ base) (hm : m ≤ 1000000) (hfit : ∀ x ∈ S, Fit x.r.type ∧ x.r.data.length ≤ 1000000 ∧ x.r.cuts.length ≤ 1000000)
    (hc : contM (S.map (·.r)) m = 0) :
    Calls Try.prog 26 #[v, .int .i64 60, .slice D m dc, .int .i64 at_] w fun e w' => ∃ v' S', e = .returned (.tuple #[v', .int .i64 0]) ∧
      RecsOwn w' base v' S' ∧ S'.map (·.r) = extM (S.map (·.r)) l ∧ Below base w w' := by
  obtain ⟨x, hx⟩ : ∃ x, S.getLast? = some x := by
    cases hs : S.getLast? with
    | some x => exact ⟨x, rfl⟩
    | none => rw [List.getLast?_eq_none_iff] at hs; subst hs; simp [contM] at hc
  have hsp := getLast_split hx
  generalize S.dropLast = S0 at hsp
  subst hsp
  have hSl : (S0 ++ [x]).length = S0.length + 1 := by simp
  obtain ⟨Av, c, hv, hcap, hrd⟩ := h.read hfit
  subst hv
  have hL : ∀ r ∈ (S0 ++ [x]).map (·.r), r.data.length ≤ 1000000 := by
    intro r hr
    obtain ⟨y, hy, rfl⟩ := List.mem_map.1 hr
    exact (hfit y hy).2.1
  have hxm : x ∈ S0 ++ [x] := by simp
  obtain ⟨f0, f1, f2⟩ := hfit x hxm
  have od := h.data x hxm
  have oc := h.cuts x hxm
  obtain ⟨D', ddc, hd, _, _, _⟩ := own_form od
  obtain ⟨C', ccc, hcc, _, _, _⟩ := own_form oc
  rcases h.row.2 with ⟨h0, h1⟩ | ⟨g, cap, cur, hv, hbg, hg, hnc, hm', hs, ht⟩
  · exact absurd h1 (by simp)
  injection hv with hA hn hc'
  subst hA hc'
  rw [hSl] at hcap hrd ht hS h
  rw [hSl]
  clear hn hnc hcap
  have hk : Bk w g 30 cur := hg
  have hx4 : (S0 ++ [x])[S0.length]? = some x := by simp
  obtain ⟨e0, e1, e2, e3⟩ := rowOf_get hx4
  have hcur : ∀ j, j < (S0.length + 1) * 4 → cur[j]? = (rowOf (S0 ++ [x]))[j]? := by
    intro j hj
    rw [← ht, List.getElem?_take, if_pos hj]
    simp
  rw [← hcur _ (by omega), hd] at e1
  rw [← hcur _ (by omega), hcc] at e2
  have hadd : (⟨g, 0, none⟩ : Addr).add (S0.length * 4) = ⟨g, S0.length * 4, none⟩ := addr_zero _ _
  have hi : (((S0.length : Int) + 1) - 1).toNat = S0.length := by omega
  have hz : (contM (S0.map (·.r) ++ [x.r]) m != 0) = false := by
    rw [List.map_append] at hc
    simp only [List.map_cons, List.map_nil] at hc
    rw [hc]; rfl
  have HL := Lib.hid hL
  have HF := Lib.hid hfit
  have HE := Lib.hid (And.intro e1 e2)
  have HT := Lib.hid ht
  have HD := Lib.hid hd
  have HCC := Lib.hid hcc
  have HX := Lib.hid (And.intro hx hSl)
  clear hc hL hfit e1 e2 e0 e3 hcur ht hx hSl hd hcc hx4 hxm hi
  generalize hr : x.r = r at *
  obtain ⟨rt, rd, rc, ra⟩ := r
  rw [← hr] at hz
  have HR := Lib.hid hr
  clear hr
  simp only at od oc f0 f1 f2 HE
  go_enter Try.func26, Try.ntmps26
  go_wp2_with fail
  refine (checkContinue_any hrd hS hm HL.out).mono ?_
  rintro e w1 ⟨rfl, rfl⟩
  go_wp2_with fail
  have od' := od
  have oc' := oc
  rw [HD.out] at od'
  rw [HCC.out] at oc'
  refine (extend_any (off := S0.length * 4) hk HE.out.1 HE.out.2 hb hbg od' oc' hl hB f1 f2 hm).mono ?_
  rintro e w1 ⟨dv, cv, rfl, od2, oc2, k2, K2, ld, lc⟩
  go_wp2
  go_ret2
  rw [← HD.out, ← HCC.out] at K2
  rw [← HD.out] at ld
  rw [← HCC.out] at lc
  have hml := hl.blen
  refine ⟨_, S0 ++ [⟨⟨rt, rd ++ l, rc ++ [(rd.length : Int)], ra⟩, dv, cv⟩], rfl, ?_, ?_, ?_⟩
  · refine h.ext hk k2 K2 ?_ ?_ ld lc (by rw [HR.out]) (by rw [HR.out])
    · simp only [List.length_append, hml]; exact od2
    · simp only [List.length_append, List.length_singleton]; exact oc2
  · have hlast : ((S0 ++ [x]).map (·.r)).getLast? = some ⟨rt, rd, rc, ra⟩ := by simp [HR.out]
    unfold extM
    rw [hlast]
    simp
  · exact K2.below hb fun i hi e => by
      rcases e with rfl | e | e
      · omega
      · have := (od.lt i e).1; omega
      · have := (oc.lt i e).1; omega

theorem addNot_any {w : World} {base m dc : Nat} {v : Value} {S : List Item} {D : Option Addr} {at_ : Int} (h : RecsOwn w base v S) (hS : S.length ≤ 1000000000000)
    (hm : m ≤ 1000000) (hfit : ∀ x ∈ S, Fit x.r.type ∧ x.r.data.length ≤ 1000000 ∧ x.r.cuts.length ≤ 1000000)
    (hc : contM (S.map (·.r)) m ≠ 0) :
    Calls Try.prog 26 #[v, .int .i64 60, .slice D m dc, .int .i64 at_] w fun e w' => e = .returned (.tuple #[.slice none 0 0, .int .i64 (contM (S.map (·.r)) m)]) ∧ w = w' := by
  obtain ⟨Av, c, rfl, _, hrd⟩ := h.read hfit
  have hb' : (contM (S.map (·.r)) m != 0) = true := by simp [hc]
  have hL : ∀ r ∈ S.map (·.r), r.data.length ≤ 1000000 := by
    intro r hr
    obtain ⟨x, hx, rfl⟩ := List.mem_map.1 hr
    exact (hfit x hx).2.1
  clear hc
  have HF := Lib.hid hfit
  have HL := Lib.hid hL
  clear hfit hL
  go_enter Try.func26, Try.ntmps26
  go_wp2_with fail
  refine (checkContinue_any hrd (by omega) hm HL.out).mono ?_
  rintro e w1 ⟨rfl, rfl⟩
  go_wp2
  go_ret2
  exact ⟨rfl, rfl⟩
end Go.Proofs.Ytpjimppfgmemeaa
