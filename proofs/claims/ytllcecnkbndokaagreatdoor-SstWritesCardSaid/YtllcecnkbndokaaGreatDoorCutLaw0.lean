/- Cuts put between a record's own, at texts' places: what such a list has, plainly. No condition; no model's run. -/
/- A table's bytes are that table, by any cuts that differ from its own at texts' places alone; law1.Of. Plain lists, and one call. No condition. -/
/- What SstCuts' law holds on its way: Encode of a table that has a layout; a law's texts. Condition: utf8.ValidString keeps its contract. -/
import Derived.Test.YtllcecnkbndokaaGreatDoorLay2
import Derived.Test.YtllcecnkbndokaaGreatDoorDec
import Derived.Test.YtllcecnkbndokaaGreatDoorToT
import Derived.Test.YtllcecnkbndokaaGreatDoorBCheck
import Derived.Test.YtllcecnkbndokaaGreatDoorKnown7
namespace Go.Proofs.YtllcecnkbndokaaGreatDoor
open Go.Lib

/-- What stands between a text's place and the record's own cuts. -/
def Fits (cs : List Int) (ps : List Nat) : Prop := ∀ p ∈ ps, ∀ x ∈ cs, x + 2 ≤ (p : Int) ∨ x = (p : Int) ∨ (p : Int) + 3 ≤ x
theorem lay_fits : ∀ (ls : List (List UInt8)) (S T : LS), Inv S → Ext (layT S ls) T → Fits T.cs (placesT S ls)
  | [], _, _, _, _, p, hp, _, _ => by cases hp
  | l :: ls, S, T, hI, hE, p, hp, x, hx => by
    rcases List.mem_cons.1 hp with rfl | hp
    · have hE1 : Ext (putT S l) T := (Ext.lay ls (putT S l)).trans hE
      obtain ⟨-, ds, hd, hb⟩ := (Ext.fold (flT l) (unis l) (begT S l)).trans hE1
      rw [hd] at hx
      rcases List.mem_append.1 hx with hx | hx
      · have hc : (begT S l).cs = S.cs ∨ (begT S l).cs = S.cs ++ [(S.b.length : Int)] := by
          show (cut3 S).cs = _ ∨ (cut3 S).cs = _
          unfold cut3
          split
          · exact .inr rfl
          · exact .inl rfl
        rcases hc with hc | hc
        · rw [hc] at hx
          exact .inl (hI.low x hx).2
        · rw [hc] at hx
          rcases List.mem_append.1 hx with hx | hx
          · exact .inl (hI.low x hx).2
          · simp at hx
            exact .inr (.inl hx)
      · have := hb x hx
        rw [begT_len] at this
        exact .inr (.inr (by omega))
    · exact lay_fits ls (putT S l) T (hI.putT l) hE p hp x hx

/-- i places gone by, k of the record's own cuts taken. -/
structure MC (cs : List Int) (ps : List Nat) (i k : Nat) (L : List Int) : Prop where
  kle : k ≤ cs.length
  apart : L.Pairwise fun x y => x + 2 ≤ y
  own : ∀ x ∈ cs.take k, x ∈ L
  from_ : ∀ x ∈ L, x ∈ cs.take k ∨ ∃ j, j < i ∧ ∃ p, ps[j]? = some p ∧ x = (p : Int)
  past : ∀ j p, j < i → ps[j]? = some p → ∀ x ∈ cs.drop k, (p : Int) + 3 ≤ x
section
variable {cs : List Int} {ps : List Nat} {i k p : Nat} {L : List Int} {x : Int}
theorem MC.start (cs : List Int) (ps : List Nat) : MC cs ps 0 0 [] := ⟨Nat.zero_le _, .nil, fun x hx => (by simp at hx), fun x hx => (by cases hx), fun j p hj => absurd hj (by omega)⟩
theorem take_succ_of (h : cs[k]? = some x) : cs.take (k + 1) = cs.take k ++ [x] := by
  have hl := (List.getElem?_eq_some_iff.1 h).1
  rw [← List.take_append_getElem hl, (List.getElem?_eq_some_iff.1 h).2]
theorem drop_succ_mem {y : Int} (h : y ∈ cs.drop (k + 1)) : y ∈ cs.drop k := by
  rw [← List.drop_drop] at h
  exact List.mem_of_mem_drop h
theorem mem_drop_of (h : cs[k]? = some x) : x ∈ cs.drop k := by
  have hl := (List.getElem?_eq_some_iff.1 h).1
  rw [List.drop_eq_getElem_cons hl, (List.getElem?_eq_some_iff.1 h).2]
  simp
/-- All that is there lies ahead of what is still to come. -/
theorem MC.ahead (h : MC cs ps i k L) (ha : cs.Pairwise fun x y => x + 2 ≤ y) : ∀ y ∈ L, ∀ z ∈ cs.drop k, y + 2 ≤ z := by
  intro y hy z hz
  rcases h.from_ y hy with h1 | ⟨j, hj, q, hq, rfl⟩
  · rw [← List.take_append_drop k cs, List.pairwise_append] at ha
    exact ha.2.2 y h1 z hz
  · have := h.past j q hj hq z hz
    omega
/-- One of the record's own, still ahead of the next place. -/
theorem MC.take (h : MC cs ps i k L) (ha : cs.Pairwise fun x y => x + 2 ≤ y) (hx : cs[k]? = some x) : MC cs ps i (k + 1) (L ++ [x]) := by
  have hl := (List.getElem?_eq_some_iff.1 hx).1
  refine ⟨hl, ?_, fun y hy => ?_, fun y hy => ?_, fun j q hj hq y hy => h.past j q hj hq y (drop_succ_mem hy)⟩
  · rw [List.pairwise_append]
    refine ⟨h.apart, by simp, fun y hy z hz => ?_⟩
    simp at hz
    subst hz
    exact h.ahead ha y hy _ (mem_drop_of hx)
  · rw [take_succ_of hx] at hy
    rcases List.mem_append.1 hy with hy | hy
    · exact List.mem_append_left _ (h.own y hy)
    · exact List.mem_append_right _ hy
  · rw [take_succ_of hx]
    rcases List.mem_append.1 hy with hy | hy
    · rcases h.from_ y hy with h1 | h1
      · exact .inl (List.mem_append_left _ h1)
      · exact .inr h1
    · exact .inl (List.mem_append_right _ hy)
/-- What is there lies two below the next place. -/
theorem MC.low (h : MC cs ps i k L) (hr : ps.Pairwise fun x y => x + 3 ≤ y) (hp : ps[i]? = some p) (hlow : ∀ y ∈ cs.take k, y + 2 ≤ (p : Int)) : ∀ y ∈ L, y + 2 ≤ (p : Int) := by
  intro y hy
  rcases h.from_ y hy with h1 | ⟨j, hj, q, hq, rfl⟩
  · exact hlow y h1
  · have hli := (List.getElem?_eq_some_iff.1 hp).1
    have hlj := (List.getElem?_eq_some_iff.1 hq).1
    have := (List.pairwise_iff_getElem.1 hr) j i hlj hli hj
    rw [(List.getElem?_eq_some_iff.1 hp).2, (List.getElem?_eq_some_iff.1 hq).2] at this
    omega
/-- Past a place at which the record has a cut of its own. -/
theorem MC.same (h : MC cs ps i k L) (ha : cs.Pairwise fun x y => x + 2 ≤ y) (hf : Fits cs ps) (hp : ps[i]? = some p) (hx : cs[k]? = some (p : Int)) : MC cs ps (i + 1) (k + 1) (L ++ [(p : Int)]) := by
  have h1 := h.take ha hx
  refine ⟨h1.kle, h1.apart, h1.own, fun y hy => ?_, fun j q hj hq y hy => ?_⟩
  · rcases h1.from_ y hy with h2 | ⟨j, hj, r⟩
    · exact .inl h2
    · exact .inr ⟨j, by omega, r⟩
  · by_cases hji : j < i
    · exact h1.past j q hji hq y hy
    · obtain rfl : j = i := by omega
      rw [hp] at hq
      injection hq with hq
      subst hq
      have hl := (List.getElem?_eq_some_iff.1 hx).1
      have hd := ha
      rw [← List.take_append_drop (k + 1) cs, take_succ_of hx, List.pairwise_append] at hd
      have := hd.2.2 (p : Int) (by simp) y hy
      have hym : y ∈ cs := List.mem_of_mem_drop hy
      rcases hf p (List.mem_of_getElem? hp) y hym with h3 | h3 | h3 <;> omega
/-- Past a place with a cut put there (m), or with none. -/
theorem MC.skip (h : MC cs ps i k L) (hf : Fits cs ps) (hr : ps.Pairwise fun x y => x + 3 ≤ y) (hp : ps[i]? = some p) (hlow : ∀ y ∈ cs.take k, y + 2 ≤ (p : Int)) (hgt : ∀ y ∈ cs.drop k, (p : Int) < y) (m : Bool) : MC cs ps (i + 1) k (L ++ if m = true then [(p : Int)] else []) := by
  have hlo := h.low hr hp hlow
  refine ⟨h.kle, ?_, fun y hy => List.mem_append_left _ (h.own y hy), fun y hy => ?_, fun j q hj hq y hy => ?_⟩
  · rw [List.pairwise_append]
    refine ⟨h.apart, by split <;> simp, fun y hy z hz => ?_⟩
    split at hz
    · simp at hz
      subst hz
      exact hlo y hy
    · cases hz
  · rcases List.mem_append.1 hy with hy | hy
    · rcases h.from_ y hy with h2 | ⟨j, hj, r⟩
      · exact .inl h2
      · exact .inr ⟨j, by omega, r⟩
    · split at hy
      · simp at hy
        exact .inr ⟨i, by omega, p, hp, hy⟩
      · cases hy
  · by_cases hji : j < i
    · exact h.past j q hji hq y hy
    · obtain rfl : j = i := by omega
      rw [hp] at hq
      injection hq with hq
      subst hq
      have := hgt y hy
      rcases hf p (List.mem_of_getElem? hp) y (List.mem_of_mem_drop hy) with h3 | h3 | h3 <;> omega
/-- All that comes of it: the record's own cuts, and some places. -/
theorem MC.all (h : MC cs ps i k L) (ha : cs.Pairwise fun x y => x + 2 ≤ y) : ((L ++ cs.drop k).Pairwise fun x y => x + 2 ≤ y) ∧ (∀ x ∈ cs, x ∈ L ++ cs.drop k) ∧ ∀ x ∈ L ++ cs.drop k, x ∈ cs ∨ ∃ p ∈ ps, x = (p : Int) := by
  refine ⟨?_, fun x hx => ?_, fun x hx => ?_⟩
  · rw [List.pairwise_append]
    refine ⟨h.apart, ?_, h.ahead ha⟩
    rw [← List.take_append_drop k cs, List.pairwise_append] at ha
    exact ha.2.1
  · rw [← List.take_append_drop k cs] at hx
    rcases List.mem_append.1 hx with hx | hx
    · exact List.mem_append_left _ (h.own x hx)
    · exact List.mem_append_right _ hx
  · rcases List.mem_append.1 hx with hx | hx
    · rcases h.from_ x hx with h1 | ⟨j, -, p, hp, rfl⟩
      · exact .inl (List.mem_of_mem_take h1)
      · exact .inr ⟨p, List.mem_of_getElem? hp, rfl⟩
    · exact .inl (List.mem_of_mem_drop hx)
theorem MC.off (h : MC cs ps i k L) (ha : cs.Pairwise fun x y => x + 2 ≤ y) (x : Nat) (hx : x ∉ ps) : (L ++ cs.drop k).contains (x : Int) = cs.contains (x : Int) := by
  obtain ⟨-, h1, h2⟩ := h.all ha
  rw [Bool.eq_iff_iff, List.contains_iff_mem, List.contains_iff_mem]
  constructor
  · intro hm
    rcases h2 _ hm with hm | ⟨p, hp, he⟩
    · exact hm
    · exact absurd (show x ∈ ps by rw [show x = p by omega]; exact hp) hx
  · exact h1 _
end
end Go.Proofs.YtllcecnkbndokaaGreatDoor
namespace Go.Proofs.YtllcecnkbndokaaGreatDoor
open Go.RowKit Go.Lib

theorem of1_any {w : World} {n c m d : Nat} {D C : Option Addr} {t a : Int} :
    Calls Tryz.prog 11 #[.agg #[.int .i64 t, .slice D n c, .slice C m d, .int .i64 a]] w fun e w' => e = .returned (.agg #[.int .i64 t, .slice D n c, .slice C m d, .int .i64 a]) ∧ Below w.heap.size w w' := by
  go_enter Tryz.func11, Tryz.ntmps11
  go_wp2
  have hbF := two_below w (.cells #[.int .i64 t, .slice D n c, .slice C m d, .int .i64 a] 30) (.cells #[.int .i64 t, .slice D n c, .slice C m d, .int .i64 a] 36)
  refine bodyPost_ret (v := .agg #[.int .i64 t, .slice D n c, .slice C m d, .int .i64 a]) (by simp [results, Tryz.results11, go_sem]) rfl ?_
  exact ⟨rfl, hbF⟩

/-- What lies in front of the texts. -/
theorem layS_front (L : List (List UInt8)) (u : Int) : ∃ q, (layS L u).b = lowB u.toNat 4 ++ (lowB L.length 4 ++ q) := by
  obtain ⟨⟨q, hq⟩, -⟩ := Ext.lay L (begL L u)
  refine ⟨q, ?_⟩
  show (layT (begL L u) L).b = _
  rw [hq]
  show (lowB u.toNat 4 ++ lowB L.length 4) ++ q = _
  rw [List.append_assoc]
theorem mc_tab {L : List (List UInt8)} {u : Int} {i k : Nat} {M : List Int} (h0 : ckTab L u = 0) (hn : L.length ≤ 1000) (h : MC (layS L u).cs (layP L u) i k M) : IsTab (layS L u).b (M ++ (layS L u).cs.drop k) L u := by
  obtain ⟨-, hE, hu, hu2, -⟩ := ckTab_ok h0
  have hI : Inv (layS L u) := (begL_inv L u).lay L
  have ha := hI.apart
  obtain ⟨h1, h2, h3⟩ := h.all ha
  have hlen := begL_len L u
  refine ⟨layS_front L u, ⟨by omega, by omega⟩, hn, fun x hx => ?_, h1, ?_⟩
  · rcases h3 x hx with hx | ⟨p, hp, rfl⟩
    · exact (hI.low x hx).1
    · have := places_ge L (begL L u) p hp
      omega
  · have := lays_back L (begL L u) (layS L u) (M ++ (layS L u).cs.drop k) (begL_inv L u) hE (Ext.refl _) (fun x _ _ hx => h.off ha x hx)
    rw [hlen] at this
    exact this

/-- What is taken of the record's own lies below all places still to come. -/
def Lo (cs : List Int) (ps : List Nat) (i k : Nat) : Prop := ∀ y ∈ cs.take k, ∀ j p, i ≤ j → ps[j]? = some p → y < (p : Int)
theorem Lo.start (cs : List Int) (ps : List Nat) : Lo cs ps 0 0 := fun y hy => by simp at hy
section
variable {cs : List Int} {ps : List Nat} {i k p : Nat} {x : Int} {L : List Int}
theorem rise_at (hr : ps.Pairwise fun x y => x + 3 ≤ y) {j q : Nat} (hp : ps[i]? = some p) (hq : ps[j]? = some q) (hij : i < j) : p + 3 ≤ q := by
  have hi := List.getElem?_eq_some_iff.1 hp
  have hj := List.getElem?_eq_some_iff.1 hq
  have := (List.pairwise_iff_getElem.1 hr) i j hi.1 hj.1 hij
  rw [hi.2, hj.2] at this
  exact this
theorem Lo.take (h : Lo cs ps i k) (hr : ps.Pairwise fun x y => x + 3 ≤ y) (hp : ps[i]? = some p) (hx : cs[k]? = some x) (hlt : x < (p : Int)) : Lo cs ps i (k + 1) := by
  intro y hy j q hj hq
  rw [take_succ_of hx] at hy
  rcases List.mem_append.1 hy with hy | hy
  · exact h y hy j q hj hq
  · simp at hy
    subst hy
    rcases Nat.lt_or_ge i j with h1 | h1
    · have := rise_at hr hp hq h1
      omega
    · obtain rfl : j = i := by omega
      rw [hp] at hq
      injection hq with hq
      omega
theorem Lo.same (h : Lo cs ps i k) (hr : ps.Pairwise fun x y => x + 3 ≤ y) (hp : ps[i]? = some p) (hx : cs[k]? = some (p : Int)) : Lo cs ps (i + 1) (k + 1) := by
  intro y hy j q hj hq
  rw [take_succ_of hx] at hy
  rcases List.mem_append.1 hy with hy | hy
  · exact h y hy j q (by omega) hq
  · simp at hy
    subst hy
    have := rise_at hr hp hq (by omega)
    omega
theorem Lo.skip (h : Lo cs ps i k) : Lo cs ps (i + 1) k := fun y hy j q hj hq => h y hy j q (by omega) hq
/-- Two below the place: it is no cut's near one. -/
theorem Lo.low2 (h : Lo cs ps i k) (hf : Fits cs ps) (hp : ps[i]? = some p) : ∀ y ∈ cs.take k, y + 2 ≤ (p : Int) := by
  intro y hy
  have h1 := h y hy i p (Nat.le_refl _) hp
  rcases hf p (List.mem_of_getElem? hp) y (List.mem_of_mem_take hy) with h2 | h2 | h2 <;> omega
theorem drop_gt (ha : cs.Pairwise fun x y => x + 2 ≤ y) (hx : cs[k]? = some x) (hlt : (p : Int) < x) : ∀ y ∈ cs.drop k, (p : Int) < y := by
  intro y hy
  have hi := List.getElem?_eq_some_iff.1 hx
  rw [List.drop_eq_getElem_cons hi.1, hi.2] at hy
  rcases List.mem_cons.1 hy with rfl | hy
  · exact hlt
  · have hd := ha
    rw [← List.take_append_drop (k + 1) cs, take_succ_of hx, List.pairwise_append] at hd
    have := hd.2.2 x (by simp) y hy
    omega
theorem drop_none (hk : cs.length ≤ k) : ∀ y ∈ cs.drop k, (p : Int) < y := by
  intro y hy
  rw [List.drop_eq_nil_of_le hk] at hy
  cases hy
/-- A place gone by with a cut of the record's own; without. -/
structure MP (cs : List Int) (ps : List Nat) (i k : Nat) (M : List Int) : Prop where
  m : MC cs ps i k M
  l : Lo cs ps i k
variable {M : List Int}
theorem MP.take (h : MP cs ps i k M) (ha : cs.Pairwise fun x y => x + 2 ≤ y) (hr : ps.Pairwise fun x y => x + 3 ≤ y) (hp : ps[i]? = some p) (hx : cs[k]? = some x) (hlt : x < (p : Int)) : MP cs ps i (k + 1) (M ++ [x]) := ⟨h.m.take ha hx, h.l.take hr hp hx hlt⟩
theorem MP.same (h : MP cs ps i k M) (ha : cs.Pairwise fun x y => x + 2 ≤ y) (hr : ps.Pairwise fun x y => x + 3 ≤ y) (hf : Fits cs ps) (hp : ps[i]? = some p) (hx : cs[k]? = some (p : Int)) : MP cs ps (i + 1) (k + 1) (M ++ [(p : Int)]) := ⟨h.m.same ha hf hp hx, h.l.same hr hp hx⟩
theorem MP.put (h : MP cs ps i k M) (hr : ps.Pairwise fun x y => x + 3 ≤ y) (hf : Fits cs ps) (hp : ps[i]? = some p) (hgt : ∀ y ∈ cs.drop k, (p : Int) < y) : MP cs ps (i + 1) k (M ++ [(p : Int)]) := ⟨by have := h.m.skip hf hr hp (h.l.low2 hf hp) hgt true; simpa using this, h.l.skip⟩
theorem MP.pass (h : MP cs ps i k M) (hr : ps.Pairwise fun x y => x + 3 ≤ y) (hf : Fits cs ps) (hp : ps[i]? = some p) (hgt : ∀ y ∈ cs.drop k, (p : Int) < y) : MP cs ps (i + 1) k M := ⟨by have := h.m.skip hf hr hp (h.l.low2 hf hp) hgt false; simpa using this, h.l.skip⟩
theorem MP.start (cs : List Int) (ps : List Nat) : MP cs ps 0 0 [] := ⟨MC.start cs ps, Lo.start cs ps⟩
end
end Go.Proofs.YtllcecnkbndokaaGreatDoor
namespace Go.Proofs.YtllcecnkbndokaaGreatDoor
open Go.RowKit Go.Lib

theorem rise_all : ∀ (l : List Int) (last size : Int), l.Pairwise (fun x y => x + 2 ≤ y) → (∀ x ∈ l, last < x ∧ x < size) → riseB last size l = true
  | [], _, _, _, _ => rfl
  | c :: r, last, size, hp, h => by
    rw [List.pairwise_cons] at hp
    have h1 := h c (by simp)
    rw [riseB, rise_all r c size hp.2 fun x hx => ⟨by have := hp.1 x hx; omega, (h x (by simp [hx])).2⟩]
    simp
    omega
theorem layE_cases {L : List (List UInt8)} {u : Int} (h : ckTab L u = 0) : layE L u = 0 ∨ layE L u = 4 := by
  have hI : Inv (layS L u) := (begL_inv L u).lay L
  have hr : riseB 0 (layR L u).data.length (layR L u).cuts = true := rise_all _ _ _ hI.apart fun x hx => by have := hI.low x hx; exact ⟨by omega, by show x < ((layS L u).b.length : Int); omega⟩
  unfold layE checkM
  rw [if_pos h, hr, if_neg (by show ¬ ((252 : Int) < 0 ∨ 65535 < (252 : Int) ∨ (252 : Int) = 60); omega)]
  split
  · exact .inr rfl
  · rw [if_neg (by simp)]
    split
    · exact .inr rfl
    · exact .inl rfl
/-- Encode of a table that fits. -/
theorem encode_ok {w : World} {B n c : Nat} {A : Option Addr} {L : List (List UInt8)} {u : Int} (HV : Val w) (h : Rd w B 1 A n (L.map tv)) (hB : B ≤ w.heap.size) (hn : n ≤ 1000) (hs : ∀ l ∈ L, l.length ≤ 100000) (h0 : layE L u = 0) :
    Calls Tryz.prog 7 #[.agg #[.slice A n c, .int .i64 u]] w fun e w' => ∃ Ad cd Ac cc Ax xc Ay yc, e = .returned (.tuple #[.agg #[.int .i64 252, .slice Ad (layS L u).b.length cd, .slice Ac (layS L u).cs.length cc, .int .i64 0], .agg #[.int .i64 255, .slice Ax (encX L u).data.length xc, .slice Ay (encX L u).cuts.length yc, .int .i64 0], .int .i64 0]) ∧
      w'.ownsRow w.heap.size 5 1 (.slice Ad (layS L u).b.length cd) (layS L u).b.length ((layS L u).b.map bv) ∧ w'.ownsRow w.heap.size 3 1 (.slice Ac (layS L u).cs.length cc) (layS L u).cs.length ((layS L u).cs.map iv) ∧
      w'.ownsRow w.heap.size 5 1 (.slice Ax (encX L u).data.length xc) (encX L u).data.length ((encX L u).data.map bv) ∧ w'.ownsRow w.heap.size 3 1 (.slice Ay (encX L u).cuts.length yc) (encX L u).cuts.length ((encX L u).cuts.map iv) ∧ Below w.heap.size w w' := by
  have e1 : encR L u = layR L u := by unfold encR; rw [if_pos h0]
  have e2 : (encX L u).type = 255 := by unfold encX; rw [if_pos h0]; rfl
  refine (encode_any (c := c) (u := u) HV h hB hn hs).mono ?_
  rw [e1, e2, h0]
  rintro e w' ⟨dv, cv, xv, yv, rfl, o1, o2, o3, o4, hb⟩
  obtain ⟨Ad, cd, rfl, -, -, -⟩ := own_form o1
  obtain ⟨Ac, cc, rfl, -, -, -⟩ := own_form o2
  obtain ⟨Ax, xc, rfl, -, -, -⟩ := own_form o3
  obtain ⟨Ay, yc, rfl, -, -, -⟩ := own_form o4
  exact ⟨Ad, cd, Ac, cc, Ax, xc, Ay, yc, rfl, o1, o2, o3, o4, hb⟩
/-- Encode of a table that does not. -/
theorem encode_no {w : World} {B n c : Nat} {A : Option Addr} {L : List (List UInt8)} {u : Int} (HV : Val w) (h : Rd w B 1 A n (L.map tv)) (hB : B ≤ w.heap.size) (hn : n ≤ 1000) (hs : ∀ l ∈ L, l.length ≤ 100000) (h0 : layE L u = 4) :
    Calls Tryz.prog 7 #[.agg #[.slice A n c, .int .i64 u]] w fun e w' => ∃ A1 n1 c1 A2 n2 c2 A3 n3 c3 A4 n4 c4 t1 t2, e = .returned (.tuple #[.agg #[.int .i64 t1, .slice A1 n1 c1, .slice A2 n2 c2, .int .i64 0], .agg #[.int .i64 t2, .slice A3 n3 c3, .slice A4 n4 c4, .int .i64 0], .int .i64 4]) ∧ Below w.heap.size w w' := by
  refine (encode_any (c := c) (u := u) HV h hB hn hs).mono ?_
  rw [h0]
  rintro e w' ⟨dv, cv, xv, yv, rfl, o1, o2, o3, o4, hb⟩
  obtain ⟨Ad, cd, rfl, -, -, -⟩ := own_form o1
  obtain ⟨Ac, cc, rfl, -, -, -⟩ := own_form o2
  obtain ⟨Ax, xc, rfl, -, -, -⟩ := own_form o3
  obtain ⟨Ay, yc, rfl, -, -, -⟩ := own_form o4
  exact ⟨_, _, _, _, _, _, _, _, _, _, _, _, _, _, rfl, hb⟩
/-- The sizes of what is laid out. -/
theorem lay_sizes {L : List (List UInt8)} {u : Int} (h : ckTab L u = 0) (hn : L.length ≤ 100) : (layS L u).b.length ≤ 400000 ∧ (layS L u).cs.length ≤ 400000 ∧ (layP L u).length = L.length := by
  have := lay_at h L.length (Nat.le_refl _) (by omega)
  rw [List.take_of_length_le (Nat.le_refl _)] at this
  obtain ⟨-, h1, h2⟩ := this
  exact ⟨by show (layT (begL L u) L).b.length ≤ _; omega, by show (layT (begL L u) L).cs.length ≤ _; omega, places_len L _⟩
end Go.Proofs.YtllcecnkbndokaaGreatDoor
