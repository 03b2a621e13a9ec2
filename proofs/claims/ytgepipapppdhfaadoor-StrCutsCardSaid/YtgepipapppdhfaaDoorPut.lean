/- bytes.Clone, str.put16, str.putNarrow, str.putWide by their contracts. Condition: the bytes read as such, are the call's own, and are not too many. -/
import Derived.Test.YtgepipapppdhfaaDoorNum
import Derived.Test.YtgepipapppdhfaaDoorUnits
import Derived.Lib.OthersKept
namespace Go.Proofs.YtgepipapppdhfaaDoor
open Go.RowKit Go.Lib

theorem clone_any {w : World} {B n c : Nat} {A : Option Addr} {l : List UInt8} (h : Rd w B 1 A n (l.map bv)) (hB : B ≤ w.heap.size) (hn : n ≤ 140737488355328) :
    Calls Tryd.prog 19 #[.slice A n c] w fun e w' => ∃ v', e = .returned v' ∧ w'.ownsRow w.heap.size 5 1 v' n (l.map bv) ∧ Below w.heap.size w w' := by
  have he := fun W => Lib.run_eql_slice_nil (P := Tryd.prog) W 22 5 A n c 0 0 Tryd.underlying22
  cases A with
  | none =>
    have hn0 : n = 0 := by
      rcases Nat.eq_zero_or_pos n with h0 | h0
      · exact h0
      · obtain ⟨a, ha, _⟩ := h.at_ h0; cases ha
    subst hn0
    have hl : l = [] := List.eq_nil_of_length_eq_zero h.blen
    subst hl
    go_enter Tryd.func19, Tryd.ntmps19
    go_wp2
    go_ret
    exact ⟨_, rfl, World.ownsRow_nil _ _ _ _, Below.refl _ _⟩
  | some a =>
    go_enter Tryd.func19, Tryd.ntmps19
    go_wp2_with (at_builtin; refine wpList_app bytesRow rfl (.tmp 5) (.tmp 6) rfl rfl rfl (World.ownsRow_made (base := w.heap.size) (size := 1) w #[] 0 (Nat.le_refl _) (by simp [maxLen]) (by simp)) (h.belowMono ((Below.refl w.heap.size w).alloc (Nat.le_refl _) _) hB) (bv_one _) ?_ ?_ ?_ ?_)
    · unfold maxLen; omega
    · omega
    · simp
    · intro v' w' ho _ hbel
      go_wp2
      go_ret
      exact ⟨v', rfl, by simpa using ho, ((Below.refl _ _).alloc (Nat.le_refl _) _).trans hbel⟩

theorem i32_or_nat (a b : Nat) (ha : a % 1024 = 0) (hb : b < 1024) (h : a + b < 2147483648) : bits .or .i32 (a : Int) (b : Int) = ((a + b : Nat) : Int) := by
  show IntKind.i32.wrap ((BitVec.ofInt 32 (a : Int) ||| BitVec.ofInt 32 (b : Int)).toNat : Int) = _
  rw [BitVec.toNat_or, BitVec.ofInt_natCast, BitVec.ofInt_natCast, BitVec.toNat_ofNat, BitVec.toNat_ofNat, Nat.mod_eq_of_lt (by omega), Nat.mod_eq_of_lt (by omega), nat_join 10 a b ha hb]
  exact IntWalk.i32_in _ (by omega)
theorem i32_or (a b : Int) (h0 : 0 ≤ a) (ha : a % 1024 = 0) (h1 : 0 ≤ b) (hb : b < 1024) (h : a + b < 2147483648) : bits .or .i32 a b = a + b := by
  have := i32_or_nat a.toNat b.toNat (by omega) (by omega) (by omega)
  rw [Int.toNat_of_nonneg h0, Int.toNat_of_nonneg h1] at this
  rw [this]
  omega
theorem i32_and (a : Int) (h0 : 0 ≤ a) (h : a < 2147483648) : bits .and .i32 a 1023 = a % 1024 := by
  obtain ⟨n, rfl⟩ : ∃ n : Nat, a = n := ⟨a.toNat, by omega⟩
  show IntKind.i32.wrap ((BitVec.ofInt 32 (n : Int) &&& BitVec.ofInt 32 (1023 : Int)).toNat : Int) = _
  rw [BitVec.toNat_and, BitVec.ofInt_natCast, BitVec.toNat_ofNat, Nat.mod_eq_of_lt (by omega), show (BitVec.ofInt 32 (1023 : Int)).toNat = 1023 by decide, nat_mask10]
  rw [IntWalk.i32_in _ (by omega)]
  omega

theorem own_iterAt {w : World} {base n k g : Nat} {e : TypeId} {v : Value} {xs : List Value} {s : ByteArray} {pos : Nat} (h : w.ownsRow base e k v n xs) (hk : w.heap[g]? = some (.stringIter s pos)) (pos' : Nat) : (w.iterAt g s pos').ownsRow base e k v n xs := by
  refine ⟨h.1, ?_⟩
  rcases h.2 with h2 | ⟨b, cap, cur, hv, hb, hh, r⟩
  · exact .inl h2
  · refine .inr ⟨b, cap, cur, hv, hb, ?_, r⟩
    rw [iterAt_other _ _ _ _ _ (by
      rintro rfl
      rw [hk] at hh
      cases hh)]
    exact hh
theorem own_ne_iter {w : World} {base n k g : Nat} {e : TypeId} {v : Value} {xs : List Value} {s : ByteArray} {pos : Nat} (h : w.ownsRow base e k v n xs) (hk : w.heap[g]? = some (.stringIter s pos)) : some g ≠ v.ownBlock := by
  rcases h.2 with ⟨rfl, _⟩ | ⟨b, cap, cur, rfl, hb, hh, r⟩
  · simp [Value.ownBlock]
  · simp only [Value.ownBlock, ne_eq, Option.some.injEq]
    rintro rfl
    rw [hk] at hh
    cases hh
/-- An iterator stays as a row that is the call's own grows. -/
theorem iter_grew {w w' : World} {base n k g : Nat} {e : TypeId} {v v' : Value} {xs : List Value} {s : ByteArray} {pos : Nat} {o : Obj} (h : w.ownsRow base e k v n xs) (hk : w.heap[g]? = some (.stringIter s pos)) (hg : Grew (w.alloc o) w' v v') : w'.heap[g]? = some (.stringIter s pos) := by
  have hlt : g < w.heap.size := (Array.getElem?_eq_some_iff.1 hk).1
  rw [hg.grown.block g (by simp; omega) (own_ne_iter h hk), Below.heap_alloc w o g hlt, hk]
theorem iterPos_at {w : World} {g : Nat} {s : ByteArray} {pos : Nat} (hk : w.heap[g]? = some (.stringIter s pos)) : w.iterPos g = pos := by simp [World.iterPos, hk]

theorem put16_any {w : World} {base n : Nat} {v : Value} {l : List UInt8} {r : Int} (ho : w.ownsRow base 5 1 v n (l.map bv)) (hB : base ≤ w.heap.size) (hn : n ≤ 100000000000000) :
    Calls Tryd.prog 20 #[v, .int .i32 r] w fun e w' => ∃ v', e = .returned v' ∧ w'.ownsRow base 5 1 v' (n + 2) ((l ++ b2 r).map bv) ∧ Below base w w' ∧ ∀ (g : Nat) (s : ByteArray) (p : Nat), w.heap[g]? = some (.stringIter s p) → w'.heap[g]? = some (.stringIter s p) := by
  go_enter Tryd.func20, Tryd.ntmps20
  go_wp2_with (at_builtin; refine wpList_app bytesRow rfl (.tmp 5) (.tmp 11) rfl rfl rfl (ho.alloc _) (Rd.fresh _ _ 1 2 _ rfl) ?_ ?_ ?_ ?_ ?_)
  · intro u hu; simp at hu; rcases hu with rfl | rfl <;> rfl
  · unfold maxLen; omega
  · omega
  · simp; omega
  intro v2 w2 o2 g2 b2'
  have hit : ∀ (g : Nat) (s : ByteArray) (p : Nat), w.heap[g]? = some (.stringIter s p) → w2.heap[g]? = some (.stringIter s p) := fun g s p hk => iter_grew ho hk g2
  clear g2
  have o3 : w2.ownsRow base 5 1 v2 (n + 2) ((l ++ b2 r).map bv) := by
    rw [List.map_append, b2, List.map_cons, List.map_cons, List.map_nil, bv_by8, bv_by8]
    exact o2
  have hb := ((Below.refl base w).alloc hB _).trans b2'
  go_wp2
  go_ret
  exact ⟨_, rfl, o3, hb, hit⟩
end Go.Proofs.YtgepipapppdhfaaDoor
