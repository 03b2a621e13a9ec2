/- Rows of rows: what a slice's elements read as, by the form of one element; kept while only other blocks turn. No condition. -/
/- Bytes, numbers of two bytes, bytes as a string. No condition. -/
/- Cursors: le.stands, le.left, le.End by their contracts. Condition: lengths as lengths are. -/
/- An argument that is a slice of integers: how it reads. No condition. -/
import Derived.Test.YtlaiocdnddnnaaaGreatDoorSettle
import Derived.Test.YtlaiocdnddnnaaaGreatDoorProg
import Derived.Laws.BitsAllLaws
import Derived.Laws.BitsLemmas
import Derived.RegionTactic
import Derived.BigRegion
set_option linter.unusedVariables false
set_option linter.unusedSimpArgs false
namespace Go.Proofs.YtlaiocdnddnnaaaGreatDoor
open Go.RowKit
theorem own_mono {w : World} {base base' : Nat} {e : TypeId} {k : Nat} {v : Value} {n : Nat} {xs : List Value} (h : w.ownsRow base e k v n xs) (hb : base' ≤ base) : w.ownsRow base' e k v n xs := by
  refine ⟨h.1, ?_⟩
  rcases h.2 with h2 | ⟨g, cap, cur, hv, hg, r⟩
  · exact .inl h2
  · exact .inr ⟨g, cap, cur, hv, by omega, r⟩
theorem addr_zero (g k : Nat) : (⟨g, 0, none⟩ : Addr).add k = ⟨g, k, none⟩ := by unfold Addr.add; split <;> simp_all
def Move (w : World) (F : Nat → Prop) (w' : World) (F' : Nat → Prop) : Prop := ∀ i, F i → F' i ∧ w'.heap[i]? = w.heap[i]?
section
variable {w w' w'' : World} {F F' F'' : Nat → Prop} {B : Nat}
theorem Move.cell (h : Move w F w' F') {p : Addr} (hp : F p.block) : w'.cell? p = w.cell? p := World.cell?_of_block (w := w) (h p.block hp).2
theorem Move.wide (hF : ∀ i, F i → F' i) : Move w F w F' := fun i hi => ⟨hF i hi, rfl⟩
theorem Move.trans (h : Move w F w' F') (h' : Move w' F' w'' F'') : Move w F w'' F'' := fun i hi => ⟨(h' i (h i hi).1).1, (h' i (h i hi).1).2.trans (h i hi).2⟩
theorem Move.of_below (hb : Below B w w') (hF : ∀ i, F i → i < B) (hF' : ∀ i, F i → F' i) : Move w F w' F' := fun i hi => ⟨hF' i hi, hb.block i (hF i hi)⟩
theorem Keep.move {T : Nat → Prop} (h : Keep T w w') (hF : ∀ i, F i → i < w.heap.size ∧ ¬ T i) (hF' : ∀ i, F i → F' i) : Move w F w' F' := fun i hi => ⟨hF' i hi, h.block i (hF i hi).1 (hF i hi).2⟩
structure RdF (w : World) (F : Nat → Prop) (k : Nat) (A : Option Addr) (n : Nat) (xs : List Value) : Prop where
  len : xs.length = n * k
  at_ : 0 < n → ∃ a, A = some a ∧ F a.block ∧ ∀ j u, xs[j]? = some u → w.cell? (a.add j) = some u
variable {k n : Nat} {A : Option Addr} {xs : List Value}
theorem RdF.move (h : RdF w F k A n xs) (hm : Move w F w' F') : RdF w' F' k A n xs := by
  refine ⟨h.len, fun hn => ?_⟩; obtain ⟨a, e, hb, hc⟩ := h.at_ hn; exact ⟨a, e, (hm _ hb).1, fun j u hu => by rw [hm.cell (by rw [add_block]; exact hb)]; exact hc j u hu⟩
theorem RdF.rd (h : RdF w F k A n xs) (hF : ∀ i, F i → i < B) : Rd w B k A n xs := by
  refine ⟨h.len, fun hn => ?_⟩; obtain ⟨a, e, hb, hc⟩ := h.at_ hn; exact ⟨a, e, hF _ hb, hc⟩
theorem Rd.rdF (h : Rd w B k A n xs) (hF : ∀ i, i < B → F i) : RdF w F k A n xs := by
  refine ⟨h.len, fun hn => ?_⟩; obtain ⟨a, e, hb, hc⟩ := h.at_ hn; exact ⟨a, e, hF _ hb, hc⟩
theorem own_rdF {base : Nat} {e : TypeId} {v : Value} (h : w.ownsRow base e k v n xs) (hF : ∀ i, v.ownBlock = some i → F i) : ∃ A c, v = .slice A n c ∧ n ≤ c ∧ RdF w F k A n xs := by
  rcases h.2 with ⟨rfl, rfl⟩ | ⟨g, cap, cur, rfl, hb, hg, hnc, hm, hs, ht⟩
  · exact ⟨none, 0, rfl, Nat.le_refl _, h.1, fun h => absurd h (by omega)⟩
  · exact ⟨_, cap, rfl, hnc, h.1, fun hn => ⟨_, rfl, hF g rfl, h.cells (g := g) rfl⟩⟩
end
structure Form (α : Type) where
  k : Nat
  R : World → (Nat → Prop) → List Value → α → Prop
  len : ∀ {w F cs x}, R w F cs x → cs.length = k
  move : ∀ {w F w' F' cs x}, Move w F w' F' → R w F cs x → R w' F' cs x
section
variable {α : Type} {f : Form α} {w w' : World} {F F' : Nat → Prop} {A : Option Addr} {n : Nat} {L : List α}
structure RowF (f : Form α) (w : World) (F : Nat → Prop) (A : Option Addr) (n : Nat) (L : List α) : Prop where
  len : L.length = n
  at_ : 0 < n → ∃ a, A = some a ∧ F a.block ∧ ∀ (i : Nat) (x : α), L[i]? = some x → ∃ cs, f.R w F cs x ∧ ∀ j u, cs[j]? = some u → w.cell? (a.add (i * f.k + j)) = some u
theorem RowF.nil (f : Form α) (w : World) (F : Nat → Prop) (A : Option Addr) : RowF f w F A 0 [] := ⟨rfl, fun h => absurd h (by omega)⟩
theorem RowF.move (h : RowF f w F A n L) (hm : Move w F w' F') : RowF f w' F' A n L := by
  refine ⟨h.len, fun hn => ?_⟩; obtain ⟨a, e, hb, hc⟩ := h.at_ hn; refine ⟨a, e, (hm _ hb).1, fun i x hi => ?_⟩; obtain ⟨cs, h1, h2⟩ := hc i x hi; exact ⟨cs, f.move hm h1, fun j u hu => by rw [hm.cell (by rw [add_block]; exact hb)]; exact h2 j u hu⟩
theorem RowF.below {B B' : Nat} (h : RowF f w (· < B) A n L) (hb : Below B' w w') (hB : B ≤ B') : RowF f w' (· < B) A n L := h.move (Move.of_below hb (fun i hi => by omega) fun i hi => hi)
theorem RowF.mono {B B' : Nat} (h : RowF f w (· < B) A n L) (hB : B ≤ B') : RowF f w (· < B') A n L := h.move (Move.wide fun i hi => by omega)
theorem RowF.cut {i j cap : Nat} (h : RowF f w F A n L) (hij : i ≤ j) (hj : j ≤ n) (hc : n ≤ cap) : RowF f w F (if cap = i then A else A.map (·.add (i * f.k))) (j - i) ((L.drop i).take (j - i)) := by
  have hl := h.len; refine ⟨by rw [List.length_take, List.length_drop]; omega, fun hn => ?_⟩; obtain ⟨a, rfl, hab, hall⟩ := h.at_ (by omega); rw [if_neg (by omega)]; refine ⟨a.add (i * f.k), rfl, by rw [add_block]; exact hab, fun m r hr => ?_⟩; rw [List.getElem?_take] at hr
  split at hr
  · rw [List.getElem?_drop] at hr; obtain ⟨cs, h1, h2⟩ := hall _ _ hr; refine ⟨cs, h1, fun q u hu => ?_⟩; rw [add_add, show i * f.k + (m * f.k + q) = (i + m) * f.k + q by rw [Nat.add_mul]; omega]; exact h2 q u hu
  · cases hr
theorem flat_len {S : List (List Value × α)} {k : Nat} : (∀ p ∈ S, p.1.length = k) → (S.flatMap (·.1)).length = S.length * k := by
  induction S with
  | nil => intro _; simp
  | cons p S ih =>
    intro h; have h1 := h p (List.mem_cons_self ..); have h2 := ih fun q hq => h q (List.mem_cons_of_mem _ hq); simp only [List.flatMap_cons, List.length_append, List.length_cons, h1, h2, Nat.add_mul, Nat.one_mul]; omega
theorem flat_get {S : List (List Value × α)} {k : Nat} : (∀ p ∈ S, p.1.length = k) → ∀ {i : Nat} {p : List Value × α}, S[i]? = some p → ∀ {j : Nat} {u : Value}, p.1[j]? = some u → (S.flatMap (·.1))[i * k + j]? = some u := by
  induction S with
  | nil => intro _ i p h; simp at h
  | cons q S ih =>
    intro h i p hi j u hu; have h1 := h q (List.mem_cons_self ..); simp only [List.flatMap_cons]
    cases i with
    | zero =>
      simp only [List.getElem?_cons_zero, Option.some.injEq] at hi; subst hi; have hj : j < q.1.length := (List.getElem?_eq_some_iff.1 hu).1; rw [List.getElem?_append_left (by omega)]
      simpa using hu
    | succ i =>
      simp only [List.getElem?_cons_succ] at hi; have e : (i + 1) * k + j = k + (i * k + j) := by rw [Nat.add_mul]; omega
      rw [List.getElem?_append_right (by omega), h1, e, Nat.add_sub_cancel_left]; exact ih (fun q hq => h q (List.mem_cons_of_mem _ hq)) hi hu
structure OwnF (f : Form α) (w : World) (F : Nat → Prop) (base : Nat) (e : TypeId) (v : Value) (L : List α) : Prop where
  ex : ∃ S : List (List Value × α), S.map (·.2) = L ∧ (∀ p ∈ S, f.R w F p.1 p.2) ∧ w.ownsRow base e f.k v L.length (S.flatMap (·.1))
variable {base : Nat} {e : TypeId} {v v' : Value}
theorem OwnF.nil (f : Form α) (w : World) (F : Nat → Prop) (base : Nat) (e : TypeId) : OwnF f w F base e (.slice none 0 0) [] := ⟨[], rfl, by simp, World.ownsRow_nil _ _ _ _⟩
theorem OwnF.lt (h : OwnF f w F base e v L) : ∀ k, v.ownBlock = some k → base ≤ k ∧ k < w.heap.size := by
  obtain ⟨S, _, _, ho⟩ := h.ex; exact ho.lt
theorem OwnF.mono {base' : Nat} (h : OwnF f w F base e v L) (hb : base' ≤ base) : OwnF f w F base' e v L := by
  obtain ⟨S, h1, h2, ho⟩ := h.ex; exact ⟨S, h1, h2, own_mono ho hb⟩
theorem OwnF.keep {T : Nat → Prop} (h : OwnF f w F base e v L) (hK : Keep T w w') (hT : ∀ i, v.ownBlock = some i → ¬ T i) (hm : Move w F w' F') : OwnF f w' F' base e v L := by
  obtain ⟨S, h1, h2, ho⟩ := h.ex; exact ⟨S, h1, fun p hp => f.move hm (h2 p hp), hK.own ho hT⟩
theorem OwnF.snoc {S : List (List Value × α)} {cs : List Value} {x : α} (h1 : S.map (·.2) = L) (h2 : ∀ p ∈ S, f.R w F p.1 p.2) (hm : Move w F w' F') (hx : f.R w' F' cs x)
    (ho : w'.ownsRow base e f.k v' (L.length + 1) (S.flatMap (·.1) ++ cs)) : OwnF f w' F' base e v' (L ++ [x]) := by
  refine ⟨S ++ [(cs, x)], by simp [h1], fun p hp => ?_, by simpa using ho⟩
  rcases List.mem_append.1 hp with hp | hp
  · exact f.move hm (h2 p hp)
  · simp at hp; subst hp; exact hx
theorem OwnF.form (h : OwnF f w F base e v L) : ∃ A c, v = .slice A L.length c ∧ L.length ≤ c := by
  obtain ⟨S, h1, h2, ho⟩ := h.ex; obtain ⟨A, c, rfl, hc, _⟩ := own_rdF (F := fun _ => True) ho fun _ _ => trivial; exact ⟨A, c, rfl, hc⟩
theorem OwnF.read (h : OwnF f w F base e v L) (hv : ∀ i, v.ownBlock = some i → F' i) (hF : ∀ i, F i → F' i) : ∃ A c, v = .slice A L.length c ∧ L.length ≤ c ∧ RowF f w F' A L.length L := by
  obtain ⟨S, h1, h2, ho⟩ := h.ex; obtain ⟨A, c, rfl, hc, hr⟩ := own_rdF ho hv; refine ⟨A, c, rfl, hc, rfl, fun hn => ?_⟩; obtain ⟨a, rfl, hb, hcell⟩ := hr.at_ hn; refine ⟨a, rfl, hb, fun i x hi => ?_⟩; rw [← h1, List.getElem?_map, Option.map_eq_some_iff] at hi; obtain ⟨p, hp, rfl⟩ := hi; have hp' := h2 p (List.mem_of_getElem? hp); exact ⟨p.1, f.move (Move.wide hF) hp', fun j u hu => hcell _ u (flat_get (fun q hq => f.len (h2 q hq)) hp hu)⟩
end
def But (w : World) (M : Nat → Prop) (i : Nat) : Prop := i < w.heap.size ∧ ¬ M i
theorem But.move {w w' : World} {M M' T : Nat → Prop} (h : Keep T w w') (hT : ∀ i, i < w.heap.size → T i → M i) (hM : ∀ i, i < w.heap.size → M' i → M i) : Move w (But w M) w' (But w' M') :=
  h.move (fun i hi => ⟨hi.1, fun ht => hi.2 (hT i hi.1 ht)⟩) fun i hi => ⟨Nat.lt_of_lt_of_le hi.1 h.size, fun hm => hi.2 (hM i hi.1 hm)⟩
end Go.Proofs.YtlaiocdnddnnaaaGreatDoor
namespace Go.Proofs.YtlaiocdnddnnaaaGreatDoor
open Go.RowKit
def bv (c : UInt8) : Value := .int .u8 (c.toNat : Int)
def by8 (n : Int) : UInt8 := UInt8.ofNat (n % 256).toNat
def b2 (n : Int) : List UInt8 := [by8 n, by8 (n / 256)]
theorem bv_by8 (n : Int) : bv (by8 n) = .int .u8 (n % 256) := by
  unfold bv by8; have h0 := Int.emod_nonneg n (show (256 : Int) ≠ 0 by omega); have h1 := Int.emod_lt_of_pos n (show (0 : Int) < 256 by omega); rw [UInt8.toNat_ofNat', Nat.mod_eq_of_lt (by omega)]
  congr 1
  omega
theorem bv_one (l : List UInt8) : ∀ u ∈ l.map bv, u.oneCell' = true := by
  intro u hu; obtain ⟨c, _, rfl⟩ := List.mem_map.1 hu; rfl
theorem bytesRow : ElemRow Tryz.prog 35 5 (.int .u8 0) 1 1 := by
  obtain ⟨i, hi, h0, h1, h2⟩ := info_parts (P := Tryz.prog) (e := 5) (z := .int .u8 0) (size := 1) (bytes := 1) (by kernel_rfl); exact ⟨Tryz.underlying35, ⟨i, hi, h0, h1, h2⟩, rfl, by omega⟩
def strOf (l : List UInt8) : ByteArray := ⟨l.toArray⟩
theorem strOf_list (l : List UInt8) : (strOf l).toList = l := by
  rw [ByteArray.toList_eq]; rfl
theorem strOf_eq (l l' : List UInt8) : ((strOf l).toList == (strOf l').toList) = decide (l = l') := by
  rw [strOf_list, strOf_list, Bool.eq_iff_iff]; simp
theorem run_str {w : World} {B n c : Nat} {A : Option Addr} {l : List UInt8} (h : Rd w B 1 A n (l.map bv)) :
    (convert 35 9 (.slice A n c)).run Tryz.prog w = .ok (.string (strOf l)) w := by
  rw [run_convert_bytes_string w _ _ 5 _ n c Tryz.underlying35 Tryz.underlying5 Tryz.underlying9]
  cases A with
  | none =>
    have hl : l = [] := by
      refine List.eq_nil_of_length_eq_zero ?_
      rcases Nat.eq_zero_or_pos n with h0 | h0
      · subst h0; simpa using h.len
      · obtain ⟨a, ha, _⟩ := h.at_ h0; cases ha
    subst hl; simp [Conv.bytesToString]; rfl
  | some a =>
    have hcell : ∀ j u, (l.map bv)[j]? = some u → w.cell? (a.add j) = some u := by
      intro j u hu; have hl : j < (l.map bv).length := (List.getElem?_eq_some_iff.1 hu).1; obtain ⟨a', ha, _, hc⟩ := h.at_ (by have := h.len; omega); injection ha with ha; subst ha; exact hc j u hu
    have hn : n = l.length := by have := h.len; simp at this; omega
    have hload := run_loadCells_list (P := Tryz.prog) w a (l.map bv) hcell; have hmap : l.map bv = (l.map fun c => (c.toNat : Int)).map (Value.int .u8) := by rw [List.map_map]; rfl
    rw [hmap] at hload; rw [run_bytesToString w a n c (l.map fun c => (c.toNat : Int)) (by rw [hn]; simpa using hload), foldl_push_bytes]
    congr 2
    simp only [strOf, ByteArray.empty, ByteArray.emptyWithCapacity, ByteArray.mk.injEq]; refine Array.toList_inj.1 ?_; simp only [List.map_map, Array.toList_append]
    show [] ++ List.map _ l = l
    rw [List.nil_append]
    conv => rhs; rw [← List.map_id l]
    exact List.map_congr_left fun c _ => by simp
end Go.Proofs.YtlaiocdnddnnaaaGreatDoor
namespace Go.Proofs.YtlaiocdnddnnaaaGreatDoor
open Go.RowKit
def stB (at_ : Int) (n : Nat) : Bool := decide (0 ≤ at_ ∧ at_ ≤ (n : Int))
theorem stands_any {w : World} {n c : Nat} {at_ : Int} {A : Option Addr} :
    Calls Tryz.prog 82 #[.agg #[.slice A n c, .int .i64 at_]] w fun e w' => e = .returned (.bool (stB at_ n)) ∧ Below w.heap.size w w' := by
  have hbel : ∀ o, Below w.heap.size w (w.alloc o) := fun o => (Below.refl _ _).alloc (Nat.le_refl _) o
  by_cases h0 : 0 ≤ at_
  · by_cases h1 : at_ ≤ (n : Int)
    · have HF := Lib.hid (show stB at_ n = true by simp [stB, h0, h1]); go_enter Tryz.func82, Tryz.ntmps82; go_wp2; go_ret; exact ⟨by rw [HF.out]; rfl, hbel _⟩
    · have HF := Lib.hid (show stB at_ n = false by simp [stB, h1]); go_enter Tryz.func82, Tryz.ntmps82; go_wp2; go_ret; exact ⟨by rw [HF.out]; rfl, hbel _⟩
  · have HF := Lib.hid (show stB at_ n = false by simp [stB, h0]); go_enter Tryz.func82, Tryz.ntmps82; go_wp2; go_ret; exact ⟨by rw [HF.out]; rfl, hbel _⟩
theorem left_any {w : World} {n c : Nat} {at_ : Int} {A : Option Addr} (h0 : 0 ≤ at_) (h1 : at_ ≤ (n : Int)) (hn : n ≤ 1000000000000000000) :
    Calls Tryz.prog 83 #[.agg #[.slice A n c, .int .i64 at_]] w fun e w' => e = .returned (.int .i64 ((n : Int) - at_)) ∧ Below w.heap.size w w' := by
  have hbel : ∀ o, Below w.heap.size w (w.alloc o) := fun o => (Below.refl _ _).alloc (Nat.le_refl _) o; go_enter Tryz.func83, Tryz.ntmps83; go_wp2; go_ret; exact ⟨rfl, hbel _⟩
def endE (at_ : Int) (n : Nat) : Int := if stB at_ n = false then 1 else if at_ < (n : Int) then 4 else 0
theorem end_any {w : World} {n c : Nat} {at_ : Int} {A : Option Addr} (hn : n ≤ 1000000000000000000) :
    Calls Tryz.prog 51 #[.agg #[.slice A n c, .int .i64 at_]] w fun e w' => e = .returned (.int .i64 (endE at_ n)) ∧ Below w.heap.size w w' := by
  have hbel : ∀ o, Below w.heap.size w (w.alloc o) := fun o => (Below.refl _ _).alloc (Nat.le_refl _) o
  cases hst : stB at_ n
  · have HF := Lib.hid (show endE at_ n = 1 by simp [endE, hst]); have HT := Lib.hid hst; clear hst; go_enter Tryz.func51, Tryz.ntmps51
    go_wp2_with fail
    refine stands_any.mono ?_; rintro e w1 ⟨rfl, hb1⟩; rw [HT.out]; have hb' := (hbel _).trans (hb1.mono (by simp)); go_wp2; go_ret; exact ⟨by rw [HF.out]; rfl, hb'⟩
  · have h01 : 0 ≤ at_ ∧ at_ ≤ (n : Int) := by simpa [stB] using hst
    obtain ⟨h0, h1⟩ := h01; have HT := Lib.hid hst
    by_cases h2 : at_ < (n : Int)
    · have HF := Lib.hid (show endE at_ n = 4 by simp [endE, hst, h2]); have h2' : 0 < (n : Int) - at_ := by omega
      clear hst; go_enter Tryz.func51, Tryz.ntmps51
      go_wp2_with fail
      refine stands_any.mono ?_; rintro e w1 ⟨rfl, hb1⟩; rw [HT.out]; have hb' := (hbel _).trans (hb1.mono (by simp)); have k1 := (Bk.new w 82 #[.slice A n c, .int .i64 at_]).below hb1 (by simp); have s1 := hb'.size; have c0 := k1.cell 0; have c1 := k1.cell 1
      go_wp2_with fail
      refine (left_any h0 h1 hn).mono ?_; rintro e w2 ⟨rfl, hb2⟩; have hb2' := hb'.trans (hb2.mono s1); clear c0 c1; go_wp2; go_ret; exact ⟨by rw [HF.out]; rfl, hb2'⟩
    · have HF := Lib.hid (show endE at_ n = 0 by simp [endE, hst, h2]); have h2' : ¬ 0 < (n : Int) - at_ := by omega
      clear hst; go_enter Tryz.func51, Tryz.ntmps51
      go_wp2_with fail
      refine stands_any.mono ?_; rintro e w1 ⟨rfl, hb1⟩; rw [HT.out]; have hb' := (hbel _).trans (hb1.mono (by simp)); have k1 := (Bk.new w 82 #[.slice A n c, .int .i64 at_]).below hb1 (by simp); have s1 := hb'.size; have c0 := k1.cell 0; have c1 := k1.cell 1
      go_wp2_with fail
      refine (left_any h0 h1 hn).mono ?_; rintro e w2 ⟨rfl, hb2⟩; have hb2' := hb'.trans (hb2.mono s1); clear c0 c1; go_wp2; go_ret; exact ⟨by rw [HF.out]; rfl, hb2'⟩
end Go.Proofs.YtlaiocdnddnnaaaGreatDoor
namespace Go.Proofs.YtlaiocdnddnnaaaGreatDoor
open Go.RowKit
def IsRow (k : IntKind) (w : World) (a : Option Addr) (len cap : Nat) (zs : List Int) : Prop :=
  (a = none ∧ len = 0 ∧ cap = 0 ∧ zs = []) ∨
  ∃ x, a = some x ∧ len ≤ cap ∧ cap ≤ maxLen ∧ zs.length = cap ∧ (∀ i, i < zs.length → w.cell? (x.add i) = some (.int k (zs.getD i 0))) ∧ ∀ n ∈ zs, (Lit.int k n).wf = true
theorem isRow_rd {k : IntKind} {w : World} {a : Option Addr} {len cap : Nat} {zs : List Int} (h : IsRow k w a len cap zs) :
    len ≤ cap ∧ cap ≤ maxLen ∧ Rd w w.heap.size 1 a len ((zs.take len).map (Value.int k)) ∧ ∀ z ∈ zs.take len, (Lit.int k z).wf = true := by
  rcases h with ⟨rfl, rfl, rfl, rfl⟩ | ⟨x, rfl, hl, hm, hz, hcell, hwf⟩
  · exact ⟨Nat.le_refl _, Nat.zero_le _, Rd.nil _ _ _ _, by simp⟩
  · refine ⟨hl, hm, ⟨by simp; omega, fun hn => ⟨x, rfl, ?_, ?_⟩⟩, fun z hz => hwf z (List.mem_of_mem_take hz)⟩
    · have := hcell 0 (by omega); have hb := World.block_lt_of_cell? w _ this
      rwa [add_block] at hb
    · intro j u hu; rw [List.getElem?_map, List.getElem?_take] at hu
      by_cases hj : j < len
      · rw [if_pos hj] at hu; have := hcell j (by omega); rw [this]; rw [List.getElem?_eq_getElem (by omega)] at hu; simp only [Option.map_some, Option.some.injEq] at hu; subst hu; simp [List.getD, List.getElem?_eq_getElem (show j < zs.length by omega)]
      · rw [if_neg hj] at hu; simp at hu
theorem wf_u8_bd {z : Int} (h : (Lit.int .u8 z).wf = true) : 0 ≤ z ∧ z ≤ 255 := by simpa [Lit.wf, IntKind.min, IntKind.max, IntKind.signed, IntKind.bits] using h
theorem bytes_of : ∀ (zs : List Int), (∀ z ∈ zs, (Lit.int .u8 z).wf = true) → ∃ l : List UInt8, zs.map (Value.int .u8) = l.map bv
  | [], _ => ⟨[], rfl⟩
  | z :: r, h => by
    obtain ⟨l, hl⟩ := bytes_of r fun x hx => h x (List.mem_cons_of_mem _ hx); obtain ⟨h0, h1⟩ := wf_u8_bd (h z (List.mem_cons_self ..)); refine ⟨UInt8.ofNat z.toNat :: l, ?_⟩; rw [List.map_cons, List.map_cons, hl]
    congr 1
    unfold bv; rw [UInt8.toNat_ofNat', Nat.mod_eq_of_lt (by omega), Int.toNat_of_nonneg h0]
theorem isRow_bytes {w : World} {a : Option Addr} {len cap : Nat} {zs : List Int} (h : IsRow .u8 w a len cap zs) : len ≤ cap ∧ cap ≤ maxLen ∧ ∃ l : List UInt8, Rd w w.heap.size 1 a len (l.map bv) := by
  obtain ⟨h1, h2, h3, h4⟩ := isRow_rd h; obtain ⟨l, hl⟩ := bytes_of _ h4; rw [hl] at h3; exact ⟨h1, h2, l, h3⟩
end Go.Proofs.YtlaiocdnddnnaaaGreatDoor
