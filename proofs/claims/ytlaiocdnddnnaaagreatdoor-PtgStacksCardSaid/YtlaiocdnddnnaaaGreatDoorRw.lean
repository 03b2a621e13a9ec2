/- expr.Refs by its contract. Condition: the formula reads as a tree, which is not too great. -/
/- Rows of trees of a call's own: cut, taken apart, put together. No condition. -/
import Derived.Test.YtlaiocdnddnnaaaGreatDoorCx
import Derived.Test.YtlaiocdnddnnaaaGreatDoorApp
set_option linter.unusedVariables false
set_option linter.unusedSimpArgs false
namespace Go.Proofs.YtlaiocdnddnnaaaGreatDoor
open Go.RowKit
theorem exprRow : ElemRow Tryz.prog 45 47 (.agg #[.int .i64 0, .int .i64 0, .int .i64 0, .int .i64 0, .string ⟨#[]⟩, .bool false, .int .i64 0, .int .i64 0, .int .i64 0, .bool false, .bool false, .int .i64 0, .int .i64 0, .bool false, .bool false, .int .i64 0, .int .i64 0, .slice none 0 0]) 18 152 := by
  obtain ⟨i, hi, h0, h1, h2⟩ := info_parts (P := Tryz.prog) (e := 47) (z := .agg #[.int .i64 0, .int .i64 0, .int .i64 0, .int .i64 0, .string ⟨#[]⟩, .bool false, .int .i64 0, .int .i64 0, .int .i64 0, .bool false, .bool false, .int .i64 0, .int .i64 0, .bool false, .bool false, .int .i64 0, .int .i64 0, .slice none 0 0]) (size := 18) (bytes := 152) (by kernel_rfl); exact ⟨Tryz.underlying45, ⟨i, hi, h0, h1, h2⟩, rfl, by omega⟩
end Go.Proofs.YtlaiocdnddnnaaaGreatDoor
namespace Go.Proofs.YtlaiocdnddnnaaaGreatDoor
open Go.RowKit
theorem own_cutk {W : World} {base n m c k : Nat} {e : TypeId} {A : Option Addr} {xs : List Value} (h : W.ownsRow base e k (.slice A n c) n xs) (hm : m ≤ n) : W.ownsRow base e k (.slice A m c) m (xs.take (m * k)) := by
  have hmk : m * k ≤ n * k := Nat.mul_le_mul_right k hm; refine ⟨by rw [List.length_take, h.1]; omega, ?_⟩
  rcases h.2 with ⟨h1, h2⟩ | ⟨g, cap, cur, h1, hb, hg, hnc, hm', hs, ht⟩
  · subst h2; obtain rfl : m = 0 := by omega
    injection h1 with hA _ hC; subst hA hC; exact .inl ⟨rfl, rfl⟩
  · injection h1 with hA _ hC; subst hA hC; exact .inr ⟨g, c, cur, rfl, hb, hg, by omega, hm', hs, by rw [← ht, List.take_take, Nat.min_eq_left hmk]⟩
section
variable {α : Type} {k : Nat}
theorem flat_take : ∀ {S : List (List Value × α)}, (∀ p ∈ S, p.1.length = k) → ∀ m : Nat, (S.flatMap (·.1)).take (m * k) = (S.take m).flatMap (·.1)
  | [], _, m => by simp
  | p :: S, h, 0 => by simp
  | p :: S, h, m + 1 => by
    have h1 := h p (List.mem_cons_self ..); have h2 := flat_take (S := S) (fun q hq => h q (List.mem_cons_of_mem _ hq)) m; rw [List.flatMap_cons, List.take_succ_cons, List.flatMap_cons, ← h2, show (m + 1) * k = p.1.length + m * k by rw [h1, Nat.add_mul]; omega, List.take_length_add_append]
theorem flat_drop : ∀ {S : List (List Value × α)}, (∀ p ∈ S, p.1.length = k) → ∀ m : Nat, (S.flatMap (·.1)).drop (m * k) = (S.drop m).flatMap (·.1)
  | [], _, m => by simp
  | p :: S, h, 0 => by simp
  | p :: S, h, m + 1 => by
    have h1 := h p (List.mem_cons_self ..); have h2 := flat_drop (S := S) (fun q hq => h q (List.mem_cons_of_mem _ hq)) m; rw [List.flatMap_cons, List.drop_succ_cons, ← h2, show (m + 1) * k = p.1.length + m * k by rw [h1, Nat.add_mul]; omega, List.drop_length_add_append]
end
def Trs (W : World) (F : Nat → Prop) (S : List (List Value × Tr)) : Prop := ∀ x ∈ S, LiT W F x.2 x.1
theorem Trs.len {W : World} {F : Nat → Prop} {S : List (List Value × Tr)} (h : Trs W F S) : ∀ p ∈ S, p.1.length = 18 := fun p hp => liT_len (h p hp)
theorem Trs.move {W W' : World} {F F' : Nat → Prop} {S : List (List Value × Tr)} (h : Trs W F S) (hm : Move W F W' F') : Trs W' F' S := fun x hx => liT_move hm (h x hx)
theorem Trs.one {W : World} {F : Nat → Prop} {S : List (List Value × Tr)} (h : Trs W F S) : ∀ u ∈ S.flatMap (·.1), u.oneCell' = true := by
  intro u hu; obtain ⟨x, hx, hu⟩ := List.mem_flatMap.1 hu; have := h x hx; obtain ⟨cs, t⟩ := x
  cases t with
  | mk p ks =>
    obtain ⟨A, c, rfl, _, _⟩ := tree_mk.1 this; exact ec_one p u hu
theorem trs_row {W : World} {F : Nat → Prop} {base n : Nat} {v : Value} {S : List (List Value × Tr)} (h : Trs W F S) (ho : W.ownsRow base 47 18 v n (S.flatMap (·.1))) (hn : S.length = n) (hF : ∀ i, v.ownBlock = some i → F i) :
    ∃ A c, v = .slice A n c ∧ n ≤ c ∧ RowF treeF W F A n (S.map (·.2)) := by
  obtain ⟨A, c, e, hc, hr⟩ := own_rdF ho hF; refine ⟨A, c, e, hc, by simpa using hn, fun h0 => ?_⟩; obtain ⟨a, rfl, hb, hcell⟩ := hr.at_ h0; refine ⟨a, rfl, hb, fun i t hi => ?_⟩; rw [List.getElem?_map, Option.map_eq_some_iff] at hi; obtain ⟨x, hx, rfl⟩ := hi; exact ⟨x.1, h x (List.mem_of_getElem? hx), fun j u hu => hcell _ u (flat_get h.len hx hu)⟩
def Gw (base g : Nat) (v : Value) (W : World) (i : Nat) : Prop := base ≤ i ∧ i < W.heap.size ∧ ¬ ApT g v i
structure Rdr (W : World) (base g : Nat) (A : Option Addr) (n c : Nat) (at_ cnt : Nat) (v : Value) (ops : List Tr) : Prop where
  box : Bk W g 84 #[.slice A n c, .int .i64 at_, .int .i64 cnt, v]
  row : ∃ S, Trs W (Gw base g v W) S ∧ S.map (·.2) = ops ∧ W.ownsRow base 47 18 v ops.length (S.flatMap (·.1))
  le : base ≤ g
theorem Rdr.lt {W : World} {base g : Nat} {A : Option Addr} {n c : Nat} {at_ cnt : Nat} {v : Value} {ops : List Tr} (h : Rdr W base g A n c at_ cnt v ops) : g < W.heap.size := h.box.lt
theorem Rdr.below {W W' : World} {base g : Nat} {A : Option Addr} {n c : Nat} {at_ cnt : Nat} {v : Value} {ops : List Tr} (h : Rdr W base g A n c at_ cnt v ops) (hb : Below W.heap.size W W') : Rdr W' base g A n c at_ cnt v ops := by
  obtain ⟨S, h1, h2, h3⟩ := h.row; refine ⟨h.box.below hb h.box.lt, ⟨S, h1.move ?_, h2, (Keep.of_below (S := fun i => W.heap.size ≤ i) hb fun i _ h => h).own h3 fun i hi hh => by have := (h3.lt i hi).2; omega⟩, h.le⟩; exact fun i hi => ⟨⟨hi.1, Nat.lt_of_lt_of_le hi.2.1 hb.size, hi.2.2⟩, hb.block i hi.2.1⟩
theorem Rdr.form {W : World} {base g : Nat} {A : Option Addr} {n c : Nat} {at_ cnt : Nat} {v : Value} {ops : List Tr} (h : Rdr W base g A n c at_ cnt v ops) : ∃ S c', v = .slice S ops.length c' ∧ ops.length ≤ c' := by
  obtain ⟨S, h1, h2, h3⟩ := h.row; obtain ⟨A, c', rfl, hc, _⟩ := own_form h3; exact ⟨A, c', rfl, hc⟩
end Go.Proofs.YtlaiocdnddnnaaaGreatDoor
