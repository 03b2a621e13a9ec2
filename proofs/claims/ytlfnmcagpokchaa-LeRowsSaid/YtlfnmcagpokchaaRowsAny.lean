/- LeRows by its contract, of whatever numbers and widths. Condition: they read as such. -/
import Derived.Test.YtlfnmcagpokchaaRowsLaw
import Derived.Test.YtlfnmcagpokchaaArg
namespace Go.Proofs.Ytlfnmcagpokchaa
open Go.RowKit

theorem nats_of : ∀ (zs : List Int), (∀ z ∈ zs, (Lit.int .u32 z).wf = true) → ∃ l : List Nat, zs.map (Value.int .u32) = l.map uv ∧ ∀ x ∈ l, x < 4294967296
  | [], _ => ⟨[], rfl, by simp⟩
  | z :: r, h => by
    obtain ⟨l, hl, hb⟩ := nats_of r fun x hx => h x (List.mem_cons_of_mem _ hx)
    obtain ⟨h0, h1⟩ := wf_u32_bd (h z (List.mem_cons_self ..))
    refine ⟨z.toNat :: l, ?_, ?_⟩
    · rw [List.map_cons, List.map_cons, hl]
      congr 1
      unfold uv
      rw [Int.toNat_of_nonneg h0]
    · intro x hx
      rcases List.mem_cons.1 hx with rfl | hx
      · omega
      · exact hb x hx

set_option maxRecDepth 100000 in
theorem leRows_any {w : World} {B B' n c m c' : Nat} {A A' : Option Addr} {zs : List Nat} {ds : List UInt8} (h : Rd w B 1 A n (zs.map uv)) (h' : Rd w B' 1 A' m (ds.map bv)) (hB : B ≤ w.heap.size) (hB' : B' ≤ w.heap.size) (hz : ∀ z ∈ zs, z < 4294967296) :
    Calls Try.prog 5 #[.slice A n c, .slice A' m c'] w fun e w' => e = .returned (.bool true) ∧ Below w.heap.size w w' := by
  by_cases hn : 60 < n
  · have hn' : (60 : Int) < (n : Int) := by omega
    go_enter Try.func5, Try.ntmps5
    go_wp2_with fail
    refine (known3_any w).mono ?_
    rintro e w0 ⟨rfl, hb0⟩
    go_wp2
    go_ret
    exact ⟨rfl, hb0⟩
  by_cases hm : m < n
  · have hn' : ¬ (60 : Int) < (n : Int) := by omega
    have hm' : decide (m < n) = true := by simpa using hm
    go_enter Try.func5, Try.ntmps5
    go_wp2_with fail
    refine (known3_any w).mono ?_
    rintro e w0 ⟨rfl, hb0⟩
    go_wp2
    go_ret
    exact ⟨rfl, hb0⟩
  · exact rows_walk h h' hB hB' (by omega) (by omega) hz
end Go.Proofs.Ytlfnmcagpokchaa
